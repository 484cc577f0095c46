/- The row and the card of laws.FnExactTupleText: its walk, then the row's step. -/
import Derived.Test.YticidjceljjfnaaGreatDoorRows
import Derived.Test.YticidjceljjfnaaGreatDoorCards
import Derived.Test.YticidjceljjfnaaGreatDoorTie
import Derived.Test.YticidjceljjfnaaGreatDoorQLk
import Derived.Test.YticidjceljjfnaaGreatDoorTTyi
import Derived.Test.YticidjceljjfnaaGreatDoorTLw
import Derived.Test.YticidjceljjfnaaGreatDoorWEq
import Derived.Test.YticidjceljjfnaaGreatDoorWSli
import Derived.Test.YticidjceljjfnaaGreatDoorWRead
import Derived.Deep.RegionHeld3
import Derived.WalkKit
import Derived.ProofKit
import Derived.OpenShut
import Derived.ShutString
import Derived.ChangeOld
import Derived.Below
import Derived.Lib.SmallJoins
import Derived.LaidMore
import Derived.ChangeVars
import Derived.SevenTiedAt
import Derived.Stop.Joined
namespace Go.Proofs.YticidjceljjfnaaGreatDoor.fnExactTupleText
open Go.ChangeShapes Go.WideShapes Go.ChangeAt Go.RowKit Go.Joins V
set_option linter.unusedVariables false
set_option maxRecDepth 20000

theorem fourteen {w w' : World} {b : Nat} {t : TupT} {x1 x2 : Value} (h : TupAt w b t x1 x2) (hb : Below w.heap.size w w') : w'.cell? ⟨b, 0, none⟩ = some (.string t.ty) ∧ w'.cell? ⟨b, 1, none⟩ = some (.string t.id) ∧ w'.cell? ⟨b, 2, none⟩ = some (.string t.rel) ∧ w'.cell? ⟨b, 3, none⟩ = some (.string t.sty) ∧ w'.cell? ⟨b, 4, none⟩ = some (.string t.sid) ∧ w'.cell? ⟨b, 5, none⟩ = some (.string t.srel) ∧ w'.cell? ⟨b, 6, none⟩ = some (.string t.cav) ∧ w'.cell? ⟨b, 7, none⟩ = some (.int .i64 t.g.k) ∧ w'.cell? ⟨b, 8, none⟩ = some (.int .i64 t.g.a.x) ∧ w'.cell? ⟨b, 9, none⟩ = some (.int .i64 t.g.a.n) ∧ w'.cell? ⟨b, 10, none⟩ = some (.string t.g.a.t) ∧ w'.cell? ⟨b, 11, none⟩ = some (.string t.g.a.y) ∧ w'.cell? ⟨b, 12, none⟩ = some (x1) ∧ w'.cell? ⟨b, 13, none⟩ = some (x2) :=
  ⟨(hb.cell h.lt).trans h.d0, (hb.cell h.lt).trans h.d1, (hb.cell h.lt).trans h.d2, (hb.cell h.lt).trans h.d3, (hb.cell h.lt).trans h.d4, (hb.cell h.lt).trans h.d5, (hb.cell h.lt).trans h.d6, (hb.cell h.lt).trans h.d7, (hb.cell h.lt).trans h.d8, (hb.cell h.lt).trans h.d9, (hb.cell h.lt).trans h.d10, (hb.cell h.lt).trans h.d11, (hb.cell h.lt).trans h.d12, (hb.cell h.lt).trans h.d13⟩

set_option maxHeartbeats 4000000 in
theorem walk (t : TupT) (a1 a2 : Option Addr) (l1 c1 l2 c2 : Nat) (w : World) (ht : t.Ok) (hs1 : SlA w a1 l1 t.g.items) (hs2 : SlS w a2 l2 t.g.names) (hl1 : l1 ≤ maxLen) (hl2 : l2 ≤ maxLen) (hT : Tab w) :
    Calls Tryz.prog 3 #[tAg t a1 l1 c1 a2 l2 c2] w fun e w' => e = .returned (.bool true) ∧ Below w.heap.size w w' := by
  have qz := hide (fun q w h0 h1 hs1 hs2 => szTuple_any t ht a1 a2 l1 c1 l2 c2 q w h0 h1 hl1 hl2 hs1 hs2)
  have qt := hide (fun w g1 g2 hs1 hs2 => toTuple_any t a1 a2 l1 c1 l2 c2 w g1 g2 hs1 hs2)
  have TS := hide (fun (d1 d2 : Option Addr) (m1 m2 : Nat) (e1 e2 : Nat) w hl h1 h2 => sTupleText_any t ht d1 d2 m1 e1 m2 e2 w hl h1 h2)
  have TI := hide (fun (d1 d2 : Option Addr) (m1 m2 : Nat) (e1 e2 : Nat) w hl hT h1 h2 => iTupleText_any t ht d1 d2 m1 e1 m2 e2 w hl hT h1 h2)
  have HT := hide hT
  have HS1 := hide hs1
  have HS2 := hide hs2
  have M1 := hide hl1
  have M2 := hide hl2
  clear hs1 hs2 ht hl1 hl2 hT
  go_enter Tryz.func3, Tryz.ntmps3
  go_wp2_with fail
  refine (unhide qz _ _ (by omega) (by omega) ((unhide HS1).keep (bAl (Below.refl _ _) _)) ((unhide HS2).keep (bAl (Below.refl _ _) _))).mono ?_
  rintro e w1 ⟨⟨m, hm1, hm2, hm3, rfl⟩, hb1⟩
  have qv := (TupAt.new w t (.slice a1 l1 c1) (.slice a2 l2 c2) 29).keep hb1
  have bw := bTr (bAl (Below.refl _ _) _) hb1
  clear hb1 qz
  by_cases hm : m < 0
  · go_wp2_with fail
    go_ret
    exact ⟨rfl, bw⟩
  have g1 : l1 ≤ 1048576 := by omega
  have g2 : l2 ≤ 1048576 := by omega
  have QT := hide (fun w hs1 hs2 => unhide qt w g1 g2 hs1 hs2)
  clear qt hm3
  have d0 := qv.d0
  have d1 := qv.d1
  have d2 := qv.d2
  have d3 := qv.d3
  have d4 := qv.d4
  have d5 := qv.d5
  have d6 := qv.d6
  have d7 := qv.d7
  have d8 := qv.d8
  have d9 := qv.d9
  have d10 := qv.d10
  have d11 := qv.d11
  have d12 := qv.d12
  have d13 := qv.d13
  go_wp2_with fail
  refine (unhide QT _ ((unhide HS1).keep bw) ((unhide HS2).keep bw)).mono ?_
  rintro e w2 ⟨b1, b2, rfl, r1, r2, hb2⟩
  have hs := hide (unhide TS (some ⟨b1, 0, none⟩) (some ⟨b2, 0, none⟩) l1 l2 l1 l2 w2 (unhide M1) ⟨(unhide HS1).1, .inr ⟨b1, 0, rfl, r1⟩⟩ ⟨(unhide HS2).1, .inr ⟨b2, 0, rfl, r2⟩⟩)
  replace bw := bTr bw hb2
  replace qv := qv.keep hb2
  clear hb2 d0 d1 d2 d3 d4 d5 d6 d7 d8 d9 d10 d11 d12 d13 r1 r2
  go_wp2_with fail
  refine (unhide hs).mono ?_
  rintro e w3 ⟨⟨X, rfl, hX⟩, hb3⟩
  have HX := hide hX
  replace bw := bTr bw hb3
  replace qv := qv.keep hb3
  clear hb3 hs hX
  have d0 := qv.d0
  have d1 := qv.d1
  have d2 := qv.d2
  have d3 := qv.d3
  have d4 := qv.d4
  have d5 := qv.d5
  have d6 := qv.d6
  have d7 := qv.d7
  have d8 := qv.d8
  have d9 := qv.d9
  have d10 := qv.d10
  have d11 := qv.d11
  have d12 := qv.d12
  have d13 := qv.d13
  go_wp2_with fail
  refine (unhide QT _ ((unhide HS1).keep bw) ((unhide HS2).keep bw)).mono ?_
  rintro e w4 ⟨b3, b4, rfl, r3, r4, hb4⟩
  replace bw := bTr bw hb4
  replace qv := qv.keep hb4
  clear hb4 d0 d1 d2 d3 d4 d5 d6 d7 d8 d9 d10 d11 d12 d13
  obtain ⟨W5, hW5⟩ : ∃ W, W = w4.alloc (.cells #[.string t.ty, .string t.id, .string t.rel, .string t.sty, .string t.sid, .string t.srel, .string t.cav, .int .i64 t.g.k, .int .i64 t.g.a.x, .int .i64 t.g.a.n, .string t.g.a.t, .string t.g.a.y, .slice (some ⟨b3, 0, none⟩) l1 l1, .slice (some ⟨b4, 0, none⟩) l2 l2] 37) := ⟨_, rfl⟩
  have HW5 := hide hW5
  have b45 : Below w4.heap.size w4 W5 := by rw [hW5]; exact bAl (Below.refl _ _) _
  have qx : TupAt W5 w4.heap.size t (.slice (some ⟨b3, 0, none⟩) l1 l1) (.slice (some ⟨b4, 0, none⟩) l2 l2) := by rw [hW5]; exact TupAt.new w4 t _ _ _
  have s3 : Hid (SlA W5 (some ⟨b3, 0, none⟩) l1 t.g.items) := hide ⟨(unhide HS1).1, .inr ⟨b3, 0, rfl, r3.keep b45⟩⟩
  have s4 : Hid (SlS W5 (some ⟨b4, 0, none⟩) l2 t.g.names) := hide ⟨(unhide HS2).1, .inr ⟨b4, 0, rfl, r4.keep b45⟩⟩
  have hi := hide (unhide TI (some ⟨b3, 0, none⟩) (some ⟨b4, 0, none⟩) l1 l2 l1 l2 W5 (unhide M1) ((unhide HT).keep (bTr bw b45)) (unhide s3) (unhide s4))
  replace bw := bTr bw b45
  replace qv := qv.keep b45
  clear hW5 b45 r3 r4
  go_wp2_with fail
  rw [← unhide HW5]
  clear HW5
  refine (unhide hi).mono ?_
  rintro e w6 ⟨⟨Y, rfl, hY⟩, hb6⟩
  obtain rfl := (unhide HX).uniq hY
  replace bw := bTr bw hb6
  replace qv := qv.keep hb6
  replace qx := qx.keep hb6
  replace s3 := hide ((unhide s3).keep hb6)
  replace s4 := hide ((unhide s4).keep hb6)
  clear hb6 hi TS TI HX hY
  have QV := hide qv
  have QX := hide qx
  clear qv qx
  go_wp2_with fail
  go_region_held3 (fun w' => (w'.cell? ⟨w.heap.size, 0, none⟩ = some (.string t.ty) ∧ w'.cell? ⟨w.heap.size, 1, none⟩ = some (.string t.id) ∧ w'.cell? ⟨w.heap.size, 2, none⟩ = some (.string t.rel) ∧ w'.cell? ⟨w.heap.size, 3, none⟩ = some (.string t.sty) ∧ w'.cell? ⟨w.heap.size, 4, none⟩ = some (.string t.sid) ∧ w'.cell? ⟨w.heap.size, 5, none⟩ = some (.string t.srel) ∧ w'.cell? ⟨w.heap.size, 6, none⟩ = some (.string t.cav) ∧ w'.cell? ⟨w.heap.size, 7, none⟩ = some (.int .i64 t.g.k) ∧ w'.cell? ⟨w.heap.size, 8, none⟩ = some (.int .i64 t.g.a.x) ∧ w'.cell? ⟨w.heap.size, 9, none⟩ = some (.int .i64 t.g.a.n) ∧ w'.cell? ⟨w.heap.size, 10, none⟩ = some (.string t.g.a.t) ∧ w'.cell? ⟨w.heap.size, 11, none⟩ = some (.string t.g.a.y) ∧ w'.cell? ⟨w.heap.size, 12, none⟩ = some (.slice a1 l1 c1) ∧ w'.cell? ⟨w.heap.size, 13, none⟩ = some (.slice a2 l2 c2)) ∧ (w'.cell? ⟨w4.heap.size, 0, none⟩ = some (.string t.ty) ∧ w'.cell? ⟨w4.heap.size, 1, none⟩ = some (.string t.id) ∧ w'.cell? ⟨w4.heap.size, 2, none⟩ = some (.string t.rel) ∧ w'.cell? ⟨w4.heap.size, 3, none⟩ = some (.string t.sty) ∧ w'.cell? ⟨w4.heap.size, 4, none⟩ = some (.string t.sid) ∧ w'.cell? ⟨w4.heap.size, 5, none⟩ = some (.string t.srel) ∧ w'.cell? ⟨w4.heap.size, 6, none⟩ = some (.string t.cav) ∧ w'.cell? ⟨w4.heap.size, 7, none⟩ = some (.int .i64 t.g.k) ∧ w'.cell? ⟨w4.heap.size, 8, none⟩ = some (.int .i64 t.g.a.x) ∧ w'.cell? ⟨w4.heap.size, 9, none⟩ = some (.int .i64 t.g.a.n) ∧ w'.cell? ⟨w4.heap.size, 10, none⟩ = some (.string t.g.a.t) ∧ w'.cell? ⟨w4.heap.size, 11, none⟩ = some (.string t.g.a.y) ∧ w'.cell? ⟨w4.heap.size, 12, none⟩ = some (.slice (some ⟨b3, 0, none⟩) l1 l1) ∧ w'.cell? ⟨w4.heap.size, 13, none⟩ = some (.slice (some ⟨b4, 0, none⟩) l2 l2)))
    ((first
      | exact ⟨fourteen (unhide QV) (Below.refl _ _), fourteen (unhide QX) (Below.refl _ _)⟩
      | exact ⟨fourteen (unhide QV) (Below.refl _ _).drew, fourteen (unhide QX) (Below.refl _ _).drew⟩
      | exact ⟨fourteen (unhide QV) (undrew hb7), fourteen (unhide QX) (undrew hb7)⟩
      | exact ⟨fourteen (unhide QV) (bTr (undrew hb7) hb8), fourteen (unhide QX) (bTr (undrew hb7) hb8)⟩))
    (first
      | (go_at_call 7; refine (unhide QT _ ((unhide HS1).keep bw.drew) ((unhide HS2).keep bw.drew)).mono ?_; rintro e w7 ⟨b5, b6, rfl, r5, r6, hb7⟩)
      | (go_at_call 9; refine (eqTuple_same t (some ⟨b3, 0, none⟩) (some ⟨b4, 0, none⟩) (some ⟨b5, 0, none⟩) (some ⟨b6, 0, none⟩) l1 l1 l2 l2 l1 l1 l2 l2 _ (unhide M1) (unhide M2) ((unhide s3).keep (undrew hb7)) ((unhide s4).keep (undrew hb7)) ⟨(unhide HS1).1, .inr ⟨b5, 0, rfl, r5⟩⟩ ⟨(unhide HS2).1, .inr ⟨b6, 0, rfl, r6⟩⟩).mono ?_; rintro e w8 ⟨rfl, hb8⟩))
  all_goals
    go_wp2_with fail
    go_ret
    exact ⟨rfl, bTr (bTr bw (undrew hb7)) hb8⟩

set_option maxRecDepth 100000 in
theorem lifted (os : Os) (started : os.Started) (H : Type) (enc : TypeId × Value → H) :
    ReturnsInHanded {} Tryz.checked os 3 .any (fun w args => (Rows.fnExactTupleTextSpec.pre enc Tryz.prog Tryz.f3 [] false w args ∧ laidMetH Tryz.prog laidL w) ∧ sizedMet enc Tryz.prog Tryz.f3 (OpenSpec.ofChange Rows.fnExactTupleTextSpec) false w args)
      (Rows.fnExactTupleTextSpec.post enc Tryz.prog Tryz.f3 false true false false) := by
  refine returnsInHanded_of_change_and (C := Tryz.checked) (X := fun w _ => laidMetH Tryz.prog laidL w) (fun _ _ _ hh h => h.of_heap hh) own started (by kernel_rfl) Tryz.func3
    (ChangeSpec.witness_shaped (enc := enc) (C := Tryz.checked) (os := os) (X := fun w _ => laidMetH Tryz.prog laidL w) false (World.doorLaid Tryz.prog 400 os) #[.agg #[.string ByteArray.empty, .string ByteArray.empty, .string ByteArray.empty, .string ByteArray.empty, .string ByteArray.empty, .string ByteArray.empty, .string ByteArray.empty, .int .i64 0, .int .i64 0, .int .i64 0, .string ByteArray.empty, .string ByteArray.empty, .slice none 0 0, .slice none 0 0]] 8 rfl (World.shaped_of_RefB (by kernel_rfl) (by kernel_rfl)) (by kernel_rfl) (by kernel_rfl) (by kernel_rfl) (door_met os _)) ?_
  intro W base args ds gs before hval0 hW _ _ hL _
  have hval : ∀ (j : Nat) t v, Tryz.f3.params[j]? = some t → args[j]? = some v → Value.okWide Tryz.prog W .any base t v := hval0
  have hW' := hW
  obtain ⟨p, q, hA0, hV, rfl, hfz, hnd⟩ := hW
  have hA : DataW.TrodAll enc Tryz.prog W 0 (fun _ => true) true Tryz.f3.params.toList args.toList ds p := hA0
  rw [Tryz.params3] at hA hval
  obtain ⟨v0, vs0, d0, ds0, p0, q0, hargs, rfl, rfl, h0, r0⟩ := trodAll_cons hA
  obtain ⟨rfl, rfl, rfl⟩ := trodAll_nil r0
  obtain rfl : args = #[v0] := by cases args; simp_all
  obtain ⟨rfl, rfl⟩ := trodVars_none hV
  have k0 := h0
  have lt0 : ∀ x ∈ p0, x.block < W.heap.size := by obtain ⟨m, hm⟩ := k0; exact DataW.trod_lt m _ _ _ hm
  obtain ⟨v, a1, a2, l1, c1, l2, c2, e0, hok, s1, s2, m1, m2⟩ := read_tuple (hval 0 29 v0 rfl rfl) h0
  subst e0
  clear hA0 hval0
  refine (walk v a1 a2 l1 c1 l2 c2 W hok s1 s2 m1 m2 (tab_of_laid hL)).mono fun e W' ⟨he, bel⟩ => ?_
  subst he
  exact ⟨_, rfl, _, _, _, [], _, [], hW', trodAll_mk1 (shut_bool Tryz.underlying4 _), (trodAll_cons_mk (Below.trod laidOut (by kernel_rfl) (of_decide_eq_true (by kernel_rfl)) k0 bel lt0) trodAll_mk0), rfl, bel.frame _, fun h => by cases h⟩

theorem row : Rows.FnExactTupleTextSaid :=
  OpenClaim.holds_of_wide 3 Tryz.f3 rfl rfl rfl rfl rfl rfl rfl ⟨rfl, rfl, rfl, rfl, rfl⟩ rfl rfl rfl rfl rfl (by kernel_rfl) Tryz.func3 (by kernel_rfl)
    (of_decide_eq_true (by kernel_rfl)) (by unfold Func.isWrapper; first | (rw [if_pos (by decide +kernel)]; kernel_rfl) | (rw [if_neg (by decide +kernel)]; exact ⟨rfl, rfl⟩))
    (fun os started H enc _ => lifted os started H enc)
theorem card : Rows.FnExactTupleTextCardSaid :=
  Claim7.holds_tied_plain_at .later [] [.data, .data, .data] true (true, "47acbf8f58d73fbe778dfe6bdcc6bc1e45016ea504da66baf34f644ac91c1d2e") true
    row (fun _ h => by cases h) (by kernel_rfl) (fun _ h => by cases h) fnExactTupleText_row_tie rfl ⟨rfl, rfl⟩ (by kernel_rfl) rfl
    (fun f fn hf hfn => by
      obtain rfl : f = 3 := Option.some.inj ((show Tryz.prog.funcNamed "loop.example/g00036/laws.FnExactTupleText" = some 3 by kernel_rfl).symm.trans hf) |>.symm
      obtain rfl : fn = Tryz.f3 := (Option.some.inj (Tryz.func3.symm.trans hfn)).symm
      exact ⟨by kernel_rfl, fun j t ht => by
        rw [Tryz.params3] at ht
        have hm : t ∈ [29] := by simpa using Array.mem_of_getElem? ht
        have hall : ([29].all fun u => !Tryz.prog.wantsStandIn u) = true := by kernel_rfl
        exact (show Tryz.prog.wantsStandIn t = false by simpa using List.all_eq_true.1 hall t hm)⟩)
    (by kernel_rfl)
end Go.Proofs.YticidjceljjfnaaGreatDoor.fnExactTupleText
namespace Go.Proofs.YticidjceljjfnaaGreatDoor
theorem fnExactTupleText_holds : Rows.FnExactTupleTextCardSaid := fnExactTupleText.card
end Go.Proofs.YticidjceljjfnaaGreatDoor
