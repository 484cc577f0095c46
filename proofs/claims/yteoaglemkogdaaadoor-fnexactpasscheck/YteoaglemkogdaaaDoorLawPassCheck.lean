/- The row and the card of laws.FnExactPassCheck: its walk, then the row's step. -/
import Derived.Test.YteoaglemkogdaaaDoorRows
import Derived.Test.YteoaglemkogdaaaDoorCards
import Derived.Test.YteoaglemkogdaaaDoorTie
import Derived.Test.YteoaglemkogdaaaDoorDLawKit
import Derived.Test.YteoaglemkogdaaaDoorKPc
import Derived.WalkKit
import Derived.ProofKit
import Derived.OpenShut
import Derived.ShutString
import Derived.ChangeOld
import Derived.Below
import Derived.Lib.SmallJoins
import Derived.LaidMore
import Derived.ChangeVars
import Derived.SevenTiedAt
import Derived.Stop.Joined
import Derived.Deep.RegionHeld3
namespace Go.Proofs.YteoaglemkogdaaaDoor.D.fnExactPassCheck
open Go.ChangeShapes Go.WideShapes Go.ChangeAt Go.RowKit Go.Joins
set_option linter.unusedVariables false

theorem toStored_agg (a1 a2 : Option Addr) (n1 c1 n2 c2 : Nat) (l m : List UInt8) (n : Int) (w : World) (hl1 : n1 ≤ 1048576) (hl2 : n2 ≤ 1048576) (h1 : SlB w w.heap.size a1 n1 l) (h2 : SlB w w.heap.size a2 n2 m) :
    Calls Tryd.prog 13 #[.agg #[.slice a1 n1 c1, .int .i64 n, .slice a2 n2 c2]] w fun e w' => (∃ g1 g2, e = .returned (.agg #[.slice (some ⟨g1, 0, none⟩) n1 n1, .int .i64 n, .slice (some ⟨g2, 0, none⟩) n2 n2]) ∧ SlB w' w'.heap.size (some ⟨g1, 0, none⟩) n1 l ∧ SlB w' w'.heap.size (some ⟨g2, 0, none⟩) n2 m) ∧ Below w.heap.size w w' := toStored_any a1 a2 n1 c1 n2 c2 l m n w hl1 hl2 h1 h2
theorem six {w' : World} {b1 b2 T1 T2 : Nat} {x0 x1 x2 y0 y1 y2 : Value} (h : RowIs w' b1 #[x0, x1, x2] T1) (k : RowIs w' b2 #[y0, y1, y2] T2) :
    (w'.cell? ⟨b1, 0, none⟩ = some x0 ∧ w'.cell? ⟨b1, 1, none⟩ = some x1 ∧ w'.cell? ⟨b1, 2, none⟩ = some x2) ∧ w'.cell? ⟨b2, 0, none⟩ = some y0 ∧ w'.cell? ⟨b2, 1, none⟩ = some y1 ∧ w'.cell? ⟨b2, 2, none⟩ = some y2 :=
  ⟨⟨h.at rfl, h.at rfl, h.at rfl⟩, k.at rfl, k.at rfl, k.at rfl⟩
set_option maxRecDepth 20000 in
set_option maxHeartbeats 4000000 in
theorem walk (a1 a2 : Option Addr) (n1 c1 n2 c2 : Nat) (l m : List UInt8) (n : Int) (p : ByteArray) (w : World) (h1 : SlB w w.heap.size a1 n1 l) (h2 : SlB w w.heap.size a2 n2 m) (hl1 : n1 ≤ maxLen) (hl2 : n2 ≤ maxLen) (hp : p.size ≤ maxLen) (hM : Mults w) :
    Calls Tryd.prog 4 #[.agg #[.slice a1 n1 c1, .int .i64 n, .slice a2 n2 c2], .string p] w fun e w' => e = .returned (.bool true) ∧ Below w.heap.size w w' := by
  unfold maxLen at hp
  obtain ⟨W, hW⟩ : ∃ W, W = w.alloc (.cells #[.slice a1 n1 c1, .int .i64 n, .slice a2 n2 c2] 29) := ⟨_, rfl⟩
  have B0 : Below w.heap.size w W := by rw [hW]; exact bAl (Below.refl _ _) _
  have HR := hide (show RowIs W w.heap.size #[.slice a1 n1 c1, .int .i64 n, .slice a2 n2 c2] 29 by rw [hW]; exact RowIs.new _ _ _)
  have HB := hide B0
  have HW := hide hW.symm
  have H1 := hide h1
  have H2 := hide h2
  have HM := hide hM
  have h00 := hM.1
  have q1 := hide (fun q w h0 h1 => szStored_any a1 a2 n1 c1 n2 c2 n q w h0 h1 hl1 hl2)
  clear h1 h2 hW B0 hM hl1 hl2
  by_cases hz : (1048576 : Int) < (p.size : Int)
  · clear q1
    go_enter Tryd.func4, Tryd.ntmps4
    go_wp2_with fail
    go_ret
    rw [unhide HW]
    exact ⟨rfl, unhide HB⟩
  have gp : p.size ≤ 1048576 := by omega
  go_enter Tryd.func4, Tryd.ntmps4
  go_wp2_with fail
  rw [unhide HW]
  refine (unhide q1 _ _ (by omega) (by omega)).mono ?_
  rintro e w1 ⟨⟨m1, m1a, m1b, m1c, rfl⟩, hb1⟩
  have B1 := hide (bTr (unhide HB) hb1)
  have R1 := hide ((unhide HR).keep hb1)
  clear hb1 HR HB HW q1
  by_cases g1 : m1 < 0
  · go_wp2_with fail
    go_ret
    exact ⟨rfl, unhide B1⟩
  obtain ⟨k1, k2⟩ := m1c (by omega)
  clear m1c
  have x0 := (unhide R1).at (o := 0) (v := .slice a1 n1 c1) rfl
  have x1 := (unhide R1).at (o := 1) (v := .int .i64 n) rfl
  have x2 := (unhide R1).at (o := 2) (v := .slice a2 n2 c2) rfl
  have xz := (unhide R1).lt
  go_wp2_with fail
  clear x0 x1 x2 xz
  refine (toStored_any a1 a2 n1 c1 n2 c2 l m n w1 k1 k2 (((unhide H1).keepB (unhide B1)).mono (unhide B1).size) (((unhide H2).keepB (unhide B1)).mono (unhide B1).size)).mono ?_
  rintro e w2 ⟨⟨g1, g2, rfl, s1, s2⟩, hb2⟩
  have q2 := hide (sPassCheck_any (some ⟨g1, 0, none⟩) (some ⟨g2, 0, none⟩) n1 n1 n2 n2 l m n p w2 gp k1 s1 s2)
  have B2 := hide (bTr (unhide B1) hb2)
  have R2 := hide ((unhide R1).keep hb2)
  clear hb2 s1 s2 B1 R1
  unfold stoV
  go_wp2_with fail
  refine (unhide q2).mono ?_
  rintro e w3 ⟨rfl, hb3⟩
  have B3 := hide (bTr (unhide B2) hb3)
  have R3 := hide ((unhide R2).keep hb3)
  clear hb3 q2 B2 R2
  generalize hC : chk p.data.toList l m n = C
  have HC := hide hC
  clear hC
  have x0 := (unhide R3).at (o := 0) (v := .slice a1 n1 c1) rfl
  have x1 := (unhide R3).at (o := 1) (v := .int .i64 n) rfl
  have x2 := (unhide R3).at (o := 2) (v := .slice a2 n2 c2) rfl
  have xz := (unhide R3).lt
  go_wp2_with fail
  clear x0 x1 x2 xz
  refine (toStored_any a1 a2 n1 c1 n2 c2 l m n w3 k1 k2 (((unhide H1).keepB (unhide B3)).mono (unhide B3).size) (((unhide H2).keepB (unhide B3)).mono (unhide B3).size)).mono ?_
  rintro e w4 ⟨⟨g3, g4, rfl, s1, s2⟩, hb4⟩
  unfold stoV
  obtain ⟨W5, hW5⟩ : ∃ W, W = w4.alloc (.cells #[.slice (some ⟨g3, 0, none⟩) n1 n1, .int .i64 n, .slice (some ⟨g4, 0, none⟩) n2 n2] 32) := ⟨_, rfl⟩
  have b5 : Below w4.heap.size w4 W5 := by rw [hW5]; exact bAl (Below.refl _ _) _
  have HX := hide (show RowIs W5 w4.heap.size #[.slice (some ⟨g3, 0, none⟩) n1 n1, .int .i64 n, .slice (some ⟨g4, 0, none⟩) n2 n2] 32 by rw [hW5]; exact RowIs.new _ _ _)
  have S1 := hide ((s1.keep b5).mono b5.size)
  have S2 := hide ((s2.keep b5).mono b5.size)
  have B5 := hide (bTr (bTr (unhide B3) hb4) b5)
  have R5 := hide (((unhide R3).keep hb4).keep b5)
  have HW5 := hide hW5.symm
  obtain ⟨bx, hbx⟩ : ∃ b, b = w4.heap.size := ⟨_, rfl⟩
  rw [← hbx] at HX
  have HBX := hide hbx.symm
  clear hW5 b5 s1 s2 hb4 B3 R3 hbx
  go_wp2_with fail
  rw [unhide HW5, unhide HBX]
  have q3 := hide (iPassCheck_any (some ⟨g3, 0, none⟩) (some ⟨g4, 0, none⟩) n1 n1 n2 n2 l m n p W5 gp k1 (unhide S1) (unhide S2) ((unhide HM).keepB (unhide B5) h00))
  rw [unhide HC] at q3
  refine (unhide q3).mono ?_
  rintro e w6 ⟨rfl, hb6⟩
  have B6 := hide (bTr (unhide B5) hb6)
  have R6 := hide ((unhide R5).keep hb6)
  have X6 := hide ((unhide HX).keep hb6)
  replace S1 := hide (((unhide S1).keep hb6).mono hb6.size)
  replace S2 := hide (((unhide S2).keep hb6).mono hb6.size)
  clear hb6 q3 B5 R5 HX HW5 HBX
  have k : (C != C) = false := by simp
  have D6 : Below w6.heap.size w6 w6.drew := (Below.refl _ _).drew
  have R7 := hide ((unhide R6).keep D6)
  have X7 := hide ((unhide X6).keep D6)
  have B7 := hide (bTr (unhide B6) D6)
  replace S1 := hide (((unhide S1).keep D6).mono D6.size)
  replace S2 := hide (((unhide S2).keep D6).mono D6.size)
  clear D6
  go_wp2_with fail
  go_region_held3 (fun w' => (w'.cell? ⟨w.heap.size, 0, none⟩ = some (.slice a1 n1 c1) ∧ w'.cell? ⟨w.heap.size, 1, none⟩ = some (.int .i64 n) ∧ w'.cell? ⟨w.heap.size, 2, none⟩ = some (.slice a2 n2 c2)) ∧ w'.cell? ⟨bx, 0, none⟩ = some (.slice (some ⟨g3, 0, none⟩) n1 n1) ∧ w'.cell? ⟨bx, 1, none⟩ = some (.int .i64 n) ∧ w'.cell? ⟨bx, 2, none⟩ = some (.slice (some ⟨g4, 0, none⟩) n2 n2))
    (first
      | exact six (unhide R7) (unhide X7)
      | exact six (unhide R6) (unhide X6))
    (first
      | (go_at_call 13; refine (toStored_agg a1 a2 n1 c1 n2 c2 l m n _ k1 k2 (((unhide H1).keepB (unhide B7)).mono (unhide B7).size) (((unhide H2).keepB (unhide B7)).mono (unhide B7).size)).mono ?_; rintro e w8 ⟨⟨g5, g6, rfl, t1, t2⟩, hb8⟩; replace R7 := hide ((unhide R7).keep hb8); replace X7 := hide ((unhide X7).keep hb8); replace S1 := hide (((unhide S1).keep hb8).mono hb8.size); replace S2 := hide (((unhide S2).keep hb8).mono hb8.size); have T1 := hide t1; have T2 := hide t2; replace B7 := hide (bTr (unhide B7) hb8); clear hb8 t1 t2)
      | (go_at_call 15; have tt := unhide T1; refine (eqStored_same _ _ _ _ n1 _ n2 _ _ _ l m n _ k1 k2 (unhide S1) (unhide S2) (unhide T1) (unhide T2)).mono ?_; rintro e w9 ⟨rfl, hb9⟩; replace R7 := hide ((unhide R7).keep hb9); replace X7 := hide ((unhide X7).keep hb9); replace B7 := hide (bTr (unhide B7) hb9); clear hb9))
  go_wp2_with fail
  go_ret
  exact ⟨rfl, unhide B7⟩

set_option maxRecDepth 100000 in
theorem lifted (os : Os) (started : os.Started) (H : Type) (enc : TypeId × Value → H) :
    ReturnsInHanded {} Tryd.checked os 4 .any (fun w args => (Rows.fnExactPassCheckSpec.pre enc Tryd.prog Tryd.f4 [] false w args ∧ laidMetH Tryd.prog [("loop.example/g00036/impl.multipliers", Rows.laid_loop_example_g00036_impl_multipliers)] w) ∧ sizedMet enc Tryd.prog Tryd.f4 (OpenSpec.ofChange Rows.fnExactPassCheckSpec) false w args)
      (Rows.fnExactPassCheckSpec.post enc Tryd.prog Tryd.f4 false true false false) := by
  refine returnsInHanded_of_change_and (C := Tryd.checked) (X := fun w _ => laidMetH Tryd.prog [("loop.example/g00036/impl.multipliers", Rows.laid_loop_example_g00036_impl_multipliers)] w) (fun _ _ _ hh h => h.of_heap hh) own started (by kernel_rfl) Tryd.func4
    (ChangeSpec.witness_shaped (enc := enc) (C := Tryd.checked) (os := os) (X := fun w _ => laidMetH Tryd.prog [("loop.example/g00036/impl.multipliers", Rows.laid_loop_example_g00036_impl_multipliers)] w) false (World.doorLaid Tryd.prog 400 os) #[.agg #[.slice none 0 0, .int .i64 0, .slice none 0 0], .string ByteArray.empty] 8 rfl (World.shaped_of_RefB (by kernel_rfl) (by kernel_rfl)) (by kernel_rfl) (by kernel_rfl) (by kernel_rfl) (door_met os _)) ?_
  intro W base args ds gs before hval0 hW _ _ hL _
  have hval : ∀ (j : Nat) t v, Tryd.f4.params[j]? = some t → args[j]? = some v → Value.okWide Tryd.prog W .any base t v := hval0
  have hW' := hW
  obtain ⟨p, q, hA0, hV0, rfl, hfz, hnd⟩ := hW
  have hA : DataW.TrodAll enc Tryd.prog W 0 (fun _ => true) true Tryd.f4.params.toList args.toList ds p := hA0
  have hV : DataW.TrodVars enc Tryd.prog W (fun _ => true) ["loop.example/g00036/impl.multipliers"] gs q := hV0
  rw [Tryd.params4] at hA hval
  obtain ⟨v0, vs0, d0, ds0, p0, q0, hargs, rfl, rfl, h0, r0⟩ := trodAll_cons hA
  obtain ⟨v1, vs1, d1, ds1, p1, q1, rfl, rfl, rfl, h1, r1⟩ := trodAll_cons r0
  obtain ⟨rfl, rfl, rfl⟩ := trodAll_nil r1
  obtain rfl : args = #[v0, v1] := by cases args; simp_all
  obtain ⟨g, t, cs, fuel, d, p', rfl, hg, ht, hvar, hd, rfl⟩ := trodVars_one hV
  obtain rfl := Option.some.inj (gMul.symm.trans hg)
  obtain rfl := Option.some.inj (tMul.symm.trans ht)
  obtain rfl : cs = cellsM := Option.some.inj (hvar.symm.trans (cells_of_laid hL))
  obtain ⟨rfl, rfl⟩ := DataW.Trod.unique (v := .agg cellsM) ⟨fuel, hd⟩ ⟨3, reads_mul enc W _⟩
  have k0 := h0
  have lt0 : ∀ x ∈ p0, x.block < W.heap.size := by obtain ⟨m, hm⟩ := k0; exact DataW.trod_lt m _ _ _ hm
  obtain ⟨a0, b0, m0, c0, n0, d0, l0, z0, x0, e0, s0, t0, u0, y0⟩ := came_Stored (hval 0 29 v0 rfl rfl) h0
  subst e0
  obtain ⟨a1, rfl, rfl, rfl, w1⟩ := Go.ChangeMaps.open_string Tryd.underlying9 (hval 1 9 v1 rfl rfl) h1
  clear hA0 hV0 hval0
  have hM := mults_of (cells_of_laid hL)
  refine (walk a0 b0 m0 c0 n0 d0 l0 z0 x0 a1 W s0 t0 u0 y0 w1 hM).mono fun e W' ⟨he, bel⟩ => ?_
  subst he
  exact ⟨_, rfl, _, _, _, [], _, _, hW', trodAll_mk1 (shut_bool Tryd.underlying4 _), (trodAll_cons_mk (Below.trod laidOut (by kernel_rfl) (of_decide_eq_true (by kernel_rfl)) k0 bel lt0) (trodAll_cons_mk (Go.ChangeMaps.shut_string Tryd.underlying9 w1) trodAll_mk0)), vars_kept enc (cells_of_laid hL) hM.1 bel, bel.frame _, fun h => by cases h⟩

theorem row : Rows.FnExactPassCheckSaid :=
  OpenClaim.holds_of_wide 4 Tryd.f4 rfl rfl rfl rfl rfl rfl rfl ⟨rfl, rfl, rfl, rfl, rfl⟩ rfl rfl rfl rfl rfl (by kernel_rfl) Tryd.func4 (by kernel_rfl)
    (of_decide_eq_true (by kernel_rfl)) (by unfold Func.isWrapper; first | (rw [if_pos (by decide +kernel)]; kernel_rfl) | (rw [if_neg (by decide +kernel)]; exact ⟨rfl, rfl⟩))
    (fun os started H enc _ => lifted os started H enc)
theorem card : Rows.FnExactPassCheckCardSaid :=
  Claim7.holds_tied_plain_at .later [] [.data] true (true, "5ed8caf17fa84d2a8cff9eebd364fa181b8e71e2f3554e141f34554c6e168d82") false
    row (fun _ h => by cases h) (by kernel_rfl) (fun _ h => by cases h) fnExactPassCheck_row_tie rfl ⟨rfl, rfl⟩ (by kernel_rfl) rfl
    (fun f fn hf hfn => by
      obtain rfl : f = 4 := Option.some.inj ((show Tryd.prog.funcNamed "loop.example/g00036/laws.FnExactPassCheck" = some 4 by kernel_rfl).symm.trans hf) |>.symm
      obtain rfl : fn = Tryd.f4 := (Option.some.inj (Tryd.func4.symm.trans hfn)).symm
      exact ⟨by kernel_rfl, fun j t ht => by
        rw [Tryd.params4] at ht
        have hm : t ∈ [29, 9] := by simpa using Array.mem_of_getElem? ht
        have hall : ([29, 9].all fun u => !Tryd.prog.wantsStandIn u) = true := by kernel_rfl
        exact (show Tryd.prog.wantsStandIn t = false by simpa using List.all_eq_true.1 hall t hm)⟩)
    (by kernel_rfl)
end Go.Proofs.YteoaglemkogdaaaDoor.D.fnExactPassCheck
namespace Go.Proofs.YteoaglemkogdaaaDoor
theorem fnExactPassCheck_holds : Rows.FnExactPassCheckCardSaid := D.fnExactPassCheck.card
end Go.Proofs.YteoaglemkogdaaaDoor
