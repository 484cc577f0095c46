/- LawSignToken, one behind the other. -/
import Derived.Test.YthemcakenammdaaGreatDoorRows
import Derived.Test.YthemcakenammdaaGreatDoorCards
import Derived.Test.YthemcakenammdaaGreatDoorTie
import Derived.Test.YthemcakenammdaaGreatDoorJ13
import Derived.Test.YthemcakenammdaaGreatDoorJ32
import Derived.Test.YthemcakenammdaaGreatDoorJ33
import Derived.Deep.RegionHeld3
import Derived.WalkKit
import Derived.ProofKit
import Derived.OpenShut
import Derived.ShutString
import Derived.ChangeOld
import Derived.Below
import Derived.Lib.SmallJoins
import Derived.LaidMore
import Derived.ChangeVars
import Derived.SevenTiedAt
import Derived.Stop.Joined
import Derived.ChangeMaps5
/- The row and the card of laws.FnExactSignToken: its walk, then the row's step. -/
namespace Go.Proofs.YthemcakenammdaaGreatDoor.D.fnExactSignToken
open Go.ChangeShapes Go.WideShapes Go.ChangeAt Go.RowKit Go.Joins
open Go.ChangeMaps (open_string shut_string)
set_option linter.unusedVariables false
set_option maxRecDepth 100000

set_option maxHeartbeats 4000000 in
theorem walk (s : Int) (kid : ByteArray) (v : V.ValT) (a1 a2 : Option Addr) (l1 c1 l2 c2 : Nat) (w : World) (hk : kid.size ≤ maxLen) (hv : v.Ok) (hs1 : V.SlA w a1 l1 v.items) (hs2 : V.SlS w a2 l2 v.names) (hl1 : l1 ≤ maxLen) (hl2 : l2 ≤ maxLen) (hT : Tab w) (hM : Mults w) :
    Calls Tryz.prog 3 #[.int .i64 s, .string kid, .agg #[.int .i64 v.k, .int .i64 v.a.x, .int .i64 v.a.n, .string v.a.t, .string v.a.y, .slice a1 l1 c1, .slice a2 l2 c2]] w fun e w' => e = .returned (.bool true) ∧ Below w.heap.size w w' := by
  have qz := hide (fun q w h0 h1 hs1 hs2 => V.szValue_any v hv a1 a2 l1 c1 l2 c2 q w h0 h1 hl1 hl2 hs1 hs2)
  have qt := hide (fun w g1 g2 hs1 hs2 => V.toValue_any v a1 a2 l1 c1 l2 c2 w g1 g2 hs1 hs2)
  have TS := hide (fun a1 a2 l1 c1 l2 c2 w h1 h2 hl => sSignToken_any s kid v hv a1 a2 l1 c1 l2 c2 w h1 h2 hl hk)
  have TI := hide (fun a1 a2 l1 c1 l2 c2 w h1 h2 hl hM hT => iSignToken_any s kid v hv a1 a2 l1 c1 l2 c2 w h1 h2 hl hk hM hT)
  have HT := hide hT
  have HM := hide hM
  have h00 := hM.1
  unfold maxLen at hk
  clear hT hM
  have HS1 := hide hs1
  have HS2 := hide hs2
  have HV := hide hv
  have M1 := hide hl1
  have M2 := hide hl2
  clear hs1 hs2 hv hl1 hl2
  have BW := hide (bAl (Below.refl w.heap.size w) (.cells #[.int .i64 v.k, .int .i64 v.a.x, .int .i64 v.a.n, .string v.a.t, .string v.a.y, .slice a1 l1 c1, .slice a2 l2 c2] 27))
  by_cases hbig : 1048576 < kid.size
  · go_enter Tryz.func3, Tryz.ntmps3
    go_wp2_with fail
    go_ret
    exact ⟨rfl, unhide BW⟩
  clear BW
  go_enter Tryz.func3, Tryz.ntmps3
  go_wp2_with fail
  refine (unhide qz _ _ (by omega) (by omega) ((unhide HS1).keep (bAl (Below.refl _ _) _)) ((unhide HS2).keep (bAl (Below.refl _ _) _))).mono ?_
  rintro e w1 ⟨⟨m, hm1, hm2, hm3, rfl⟩, hb1⟩
  have qv := (V.ValAt.new w v (.slice a1 l1 c1) (.slice a2 l2 c2) 27).keep hb1
  have bw := bTr (bAl (Below.refl _ _) _) hb1
  clear hb1 qz
  by_cases hm : m < 0
  · go_wp2_with fail
    go_ret
    exact ⟨rfl, bw⟩
  have g1 : l1 ≤ 1048576 := by omega
  have g2 : l2 ≤ 1048576 := by omega
  have QT := hide (fun w hs1 hs2 => unhide qt w g1 g2 hs1 hs2)
  clear qt hm3
  obtain ⟨d0, d1, d2, d3, d4, d5, d6, _⟩ := hide qv
  go_wp2_with fail
  refine (unhide QT _ ((unhide HS1).keep bw) ((unhide HS2).keep bw)).mono ?_
  rintro e w2 ⟨b1, b2, rfl, r1, r2, hb2⟩
  have hs := hide (unhide TS (some ⟨b1, 0, none⟩) (some ⟨b2, 0, none⟩) l1 l1 l2 l2 w2 ⟨(unhide HS1).1, .inr ⟨b1, 0, rfl, r1⟩⟩ ⟨(unhide HS2).1, .inr ⟨b2, 0, rfl, r2⟩⟩ (unhide M1))
  replace bw := bTr bw hb2
  replace qv := qv.keep hb2
  clear hb2 d0 d1 d2 d3 d4 d5 d6 r1 r2
  go_wp2_with fail
  refine (unhide hs).mono ?_
  rintro e w3 ⟨⟨T, hT1, rfl⟩, hb3⟩
  have HX := hide hT1
  clear hT1
  replace bw := bTr bw hb3
  replace qv := qv.keep hb3
  clear hb3 hs
  obtain ⟨d0, d1, d2, d3, d4, d5, d6, _⟩ := hide qv
  go_wp2_with fail
  refine (unhide QT _ ((unhide HS1).keep bw) ((unhide HS2).keep bw)).mono ?_
  rintro e w4 ⟨b3, b4, rfl, r3, r4, hb4⟩
  replace bw := bTr bw hb4
  replace qv := qv.keep hb4
  clear hb4 d0 d1 d2 d3 d4 d5 d6
  obtain ⟨W5, hW5⟩ : ∃ W, W = w4.alloc (.cells #[.int .i64 v.k, .int .i64 v.a.x, .int .i64 v.a.n, .string v.a.t, .string v.a.y, .slice (some ⟨b3, 0, none⟩) l1 l1, .slice (some ⟨b4, 0, none⟩) l2 l2] 33) := ⟨_, rfl⟩
  have HW5 := hide hW5
  have b45 : Below w4.heap.size w4 W5 := by rw [hW5]; exact bAl (Below.refl _ _) _
  have qx : V.ValAt W5 w4.heap.size v (.slice (some ⟨b3, 0, none⟩) l1 l1) (.slice (some ⟨b4, 0, none⟩) l2 l2) := by rw [hW5]; exact V.ValAt.new w4 v _ _ _
  have s3 : Hid (V.SlA W5 (some ⟨b3, 0, none⟩) l1 v.items) := hide ⟨(unhide HS1).1, .inr ⟨b3, 0, rfl, r3.keep b45⟩⟩
  have s4 : Hid (V.SlS W5 (some ⟨b4, 0, none⟩) l2 v.names) := hide ⟨(unhide HS2).1, .inr ⟨b4, 0, rfl, r4.keep b45⟩⟩
  have hi := hide (unhide TI (some ⟨b3, 0, none⟩) (some ⟨b4, 0, none⟩) l1 l1 l2 l2 W5 (unhide s3) (unhide s4) (unhide M1) ((unhide HM).keepB (bTr bw b45) h00) ((unhide HT).keep (bTr bw b45)))
  replace bw := bTr bw b45
  replace qv := qv.keep b45
  clear hW5 b45 r3 r4
  go_wp2_with fail
  rw [← unhide HW5]
  clear HW5
  refine (unhide hi).mono ?_
  rintro e w6 ⟨⟨T', hT2, rfl⟩, hb6⟩
  obtain rfl := (unhide HX).uniq hT2
  clear hT2 HX
  replace bw := bTr bw hb6
  replace qv := qv.keep hb6
  replace qx := qx.keep hb6
  replace s3 := hide ((unhide s3).keep hb6)
  replace s4 := hide ((unhide s4).keep hb6)
  clear hb6 hi TS TI
  have QV := hide qv
  have QX := hide qx
  clear qv qx
  go_wp2_with fail
  go_region_held3 (fun w' => (w'.cell? ⟨w.heap.size, 0, none⟩ = some (.int .i64 v.k) ∧ w'.cell? ⟨w.heap.size, 1, none⟩ = some (.int .i64 v.a.x) ∧ w'.cell? ⟨w.heap.size, 2, none⟩ = some (.int .i64 v.a.n) ∧ w'.cell? ⟨w.heap.size, 3, none⟩ = some (.string v.a.t)
      ∧ w'.cell? ⟨w.heap.size, 4, none⟩ = some (.string v.a.y) ∧ w'.cell? ⟨w.heap.size, 5, none⟩ = some (.slice a1 l1 c1) ∧ w'.cell? ⟨w.heap.size, 6, none⟩ = some (.slice a2 l2 c2))
      ∧ (w'.cell? ⟨w4.heap.size, 0, none⟩ = some (.int .i64 v.k) ∧ w'.cell? ⟨w4.heap.size, 1, none⟩ = some (.int .i64 v.a.x) ∧ w'.cell? ⟨w4.heap.size, 2, none⟩ = some (.int .i64 v.a.n) ∧ w'.cell? ⟨w4.heap.size, 3, none⟩ = some (.string v.a.t)
      ∧ w'.cell? ⟨w4.heap.size, 4, none⟩ = some (.string v.a.y) ∧ w'.cell? ⟨w4.heap.size, 5, none⟩ = some (.slice (some ⟨b3, 0, none⟩) l1 l1) ∧ w'.cell? ⟨w4.heap.size, 6, none⟩ = some (.slice (some ⟨b4, 0, none⟩) l2 l2)))
    ((first
      | exact ⟨(unhide QV).seven (Below.refl _ _), (unhide QX).seven (Below.refl _ _)⟩
      | exact ⟨(unhide QV).seven (Below.refl _ _).drew, (unhide QX).seven (Below.refl _ _).drew⟩
      | exact ⟨(unhide QV).seven (undrewT hb7), (unhide QX).seven (undrewT hb7)⟩
      | exact ⟨(unhide QV).seven (bTr (undrewT hb7) hb8), (unhide QX).seven (bTr (undrewT hb7) hb8)⟩))
    (first
      | (go_at_call 6; refine (unhide QT _ ((unhide HS1).keep bw.drew) ((unhide HS2).keep bw.drew)).mono ?_; rintro e w7 ⟨b5, b6, rfl, r5, r6, hb7⟩)
      | (go_at_call 8; refine (V.eqValue_same v (some ⟨b3, 0, none⟩) (some ⟨b4, 0, none⟩) (some ⟨b5, 0, none⟩) (some ⟨b6, 0, none⟩) l1 l1 l2 l2 l1 l1 l2 l2 _ (unhide M1) (unhide M2) ((unhide s3).keep (undrewT hb7)) ((unhide s4).keep (undrewT hb7)) ⟨(unhide HS1).1, .inr ⟨b5, 0, rfl, r5⟩⟩ ⟨(unhide HS2).1, .inr ⟨b6, 0, rfl, r6⟩⟩).mono ?_; rintro e w8 ⟨rfl, hb8⟩))
  all_goals
    go_wp2_with fail
    go_ret
    exact ⟨rfl, bTr (bTr bw (undrewT hb7)) hb8⟩

theorem lifted (os : Os) (started : os.Started) (H : Type) (enc : TypeId × Value → H) :
    ReturnsInHanded {} Tryz.checked os 3 .any (fun w args => (Rows.fnExactSignTokenSpec.pre enc Tryz.prog Tryz.f3 [] false w args ∧ laidMetH Tryz.prog D.laid4 w) ∧ sizedMet enc Tryz.prog Tryz.f3 (OpenSpec.ofChange Rows.fnExactSignTokenSpec) false w args)
      (Rows.fnExactSignTokenSpec.post enc Tryz.prog Tryz.f3 false true false false) := by
  refine returnsInHanded_of_change_and (C := Tryz.checked) (X := fun w _ => laidMetH Tryz.prog D.laid4 w) (fun _ _ _ hh h => h.of_heap hh) own started (by kernel_rfl) Tryz.func3
    (ChangeSpec.witness_shaped (enc := enc) (C := Tryz.checked) (os := os) (X := fun w _ => laidMetH Tryz.prog D.laid4 w) false (World.doorLaid Tryz.prog 400 os) #[.int .i64 0, .string ByteArray.empty, .agg #[.int .i64 0, .int .i64 0, .int .i64 0, .string ByteArray.empty, .string ByteArray.empty, .slice none 0 0, .slice none 0 0]] 8 rfl (World.shaped_of_RefB (by kernel_rfl) (by kernel_rfl)) (by kernel_rfl) (by kernel_rfl) (by kernel_rfl) (door_met4 os _)) ?_
  intro W base args ds gs before hval0 hW _ _ hL _
  have hval : ∀ (j : Nat) t v, Tryz.f3.params[j]? = some t → args[j]? = some v → Value.okWide Tryz.prog W .any base t v := hval0
  have hW' := hW
  obtain ⟨p, q, hA0, hV0, rfl, hfz, hnd⟩ := hW
  have hA : DataW.TrodAll enc Tryz.prog W 0 (fun _ => true) true Tryz.f3.params.toList args.toList ds p := hA0
  have hV : DataW.TrodVars enc Tryz.prog W (fun _ => true) ["loop.example/g00036/impl.multipliers"] gs q := hV0
  rw [Tryz.params3] at hA hval
  obtain ⟨v0, vs0, d0, ds0, p0, q0, hargs, rfl, rfl, h0, r0⟩ := trodAll_cons hA
  obtain ⟨v1, vs1, d1, ds1, p1, q1, rfl, rfl, rfl, h1, r1⟩ := trodAll_cons r0
  obtain ⟨v2, vs2, d2, ds2, p2, q2, rfl, rfl, rfl, h2, r2⟩ := trodAll_cons r1
  obtain ⟨rfl, rfl, rfl⟩ := trodAll_nil r2
  obtain rfl : args = #[v0, v1, v2] := by cases args; simp_all
  obtain ⟨g, t, cs, fuel, d, p', rfl, hg, ht, hvar, hd, rfl⟩ := trodVars_one hV
  obtain rfl := Option.some.inj (gMul.symm.trans hg)
  obtain rfl := Option.some.inj (tMul.symm.trans ht)
  obtain rfl : cs = cellsM := Option.some.inj (hvar.symm.trans (cells_of_laid4 hL))
  obtain ⟨rfl, rfl⟩ := DataW.Trod.unique (v := .agg cellsM) ⟨fuel, hd⟩ ⟨3, reads_mul enc W _⟩
  obtain ⟨a0, rfl, rfl, rfl, w0⟩ := open_int Tryz.underlying3 (hval 0 3 v0 rfl rfl) h0
  obtain ⟨a1, rfl, rfl, rfl, w1⟩ := open_string Tryz.underlying9 (hval 1 9 v1 rfl rfl) h1
  have k2 := h2
  have lt2 : ∀ x ∈ p2, x.block < W.heap.size := by obtain ⟨m, hm⟩ := k2; exact DataW.trod_lt m _ _ _ hm
  obtain ⟨v, b1, b2, l1, c1, l2, c2, e2, hok, s1, s2, m1, m2⟩ := V.read_value (hval 2 27 v2 rfl rfl) h2
  subst e2
  clear hA0 hV0 hval0
  have hM := mults_of (cells_of_laid4 hL)
  refine (walk a0 a1 v b1 b2 l1 c1 l2 c2 W w1 hok s1 s2 m1 m2 (tab_of_laid4 hL) hM).mono fun e W' ⟨he, bel⟩ => ?_
  subst he
  exact ⟨_, rfl, _, _, _, [], _, _, hW', trodAll_mk1 (shut_bool Tryz.underlying4 _), (trodAll_cons_mk (shut_int Tryz.underlying3 w0) (trodAll_cons_mk (shut_string Tryz.underlying9 w1) (trodAll_cons_mk (Below.trod laidOut (by kernel_rfl) (of_decide_eq_true (by kernel_rfl)) k2 bel lt2) trodAll_mk0))), vars_kept enc (cells_of_laid4 hL) hM.1 bel, bel.frame _, fun h => by cases h⟩

theorem row : Rows.FnExactSignTokenSaid :=
  OpenClaim.holds_of_wide 3 Tryz.f3 rfl rfl rfl rfl rfl rfl rfl ⟨rfl, rfl, rfl, rfl, rfl⟩ rfl rfl rfl rfl rfl (by kernel_rfl) Tryz.func3 (by kernel_rfl)
    (of_decide_eq_true (by kernel_rfl)) (by unfold Func.isWrapper; first | (rw [if_pos (by decide +kernel)]; kernel_rfl) | (rw [if_neg (by decide +kernel)]; exact ⟨rfl, rfl⟩))
    (fun os started H enc _ => lifted os started H enc)
theorem card : Rows.FnExactSignTokenCardSaid :=
  Claim7.holds_tied_plain_at .later [] [.data, .data, .data, .data] true (true, "5e411eae91417816d244e2d828eb1ebed8a59e539d9a647a2283ef8ba8c8c65d") false
    row (fun _ h => by cases h) (by kernel_rfl) (fun _ h => by cases h) fnExactSignToken_row_tie rfl ⟨rfl, rfl⟩ (by kernel_rfl) rfl
    (fun f fn hf hfn => by
      obtain rfl : f = 3 := Option.some.inj ((show Tryz.prog.funcNamed "loop.example/g00036/laws.FnExactSignToken" = some 3 by kernel_rfl).symm.trans hf) |>.symm
      obtain rfl : fn = Tryz.f3 := (Option.some.inj (Tryz.func3.symm.trans hfn)).symm
      exact ⟨by kernel_rfl, fun j t ht => by
        rw [Tryz.params3] at ht
        have hm : t ∈ [3, 9, 27] := by simpa using Array.mem_of_getElem? ht
        have hall : ([3, 9, 27].all fun u => !Tryz.prog.wantsStandIn u) = true := by kernel_rfl
        exact (show Tryz.prog.wantsStandIn t = false by simpa using List.all_eq_true.1 hall t hm)⟩)
    (by kernel_rfl)
end Go.Proofs.YthemcakenammdaaGreatDoor.D.fnExactSignToken
namespace Go.Proofs.YthemcakenammdaaGreatDoor
theorem fnExactSignToken_holds : Rows.FnExactSignTokenCardSaid := D.fnExactSignToken.card
end Go.Proofs.YthemcakenammdaaGreatDoor
