/- The row and the card of laws.FnExactValueText: its walk, then the row's step. -/
import Derived.Test.YtijfgfdagfchiaaDoorRows
import Derived.Test.YtijfgfdagfchiaaDoorCards
import Derived.Test.YtijfgfdagfchiaaDoorTie
import Derived.Test.YtijfgfdagfchiaaDoorQLk
import Derived.Test.YtijfgfdagfchiaaDoorWVtJ
import Derived.Test.YtijfgfdagfchiaaDoorWEq
import Derived.Test.YtijfgfdagfchiaaDoorWSli
import Derived.Test.YtijfgfdagfchiaaDoorWRead
import Derived.Deep.RegionHeld3
import Derived.WalkKit
import Derived.ProofKit
import Derived.OpenShut
import Derived.ShutString
import Derived.ChangeOld
import Derived.Below
import Derived.Lib.SmallJoins
import Derived.LaidMore
import Derived.ChangeVars
import Derived.SevenTiedAt
import Derived.Stop.Joined
namespace Go.Proofs.YtijfgfdagfchiaaDoor.fnExactValueText
open Go.ChangeShapes Go.WideShapes Go.ChangeAt Go.RowKit Go.Joins V
set_option linter.unusedVariables false

theorem valueTexts (v : V.ValT) (hv : v.Ok) : ∃ X : ByteArray,
    (∀ (a1 a2 : Option Addr) (l1 c1 l2 c2 : Nat) (w : World), V.SlA w a1 l1 v.items → V.SlS w a2 l2 v.names →
      Calls Tryd.prog 10 #[.agg #[.int .i64 v.k, .int .i64 v.a.x, .int .i64 v.a.n, .string v.a.t, .string v.a.y, .slice a1 l1 c1, .slice a2 l2 c2]] w fun e w' => e = .returned (.string X) ∧ Below w.heap.size w w') ∧
    (∀ (a1 a2 : Option Addr) (l1 c1 l2 c2 : Nat) (w : World), l1 ≤ maxLen → Tab w → V.SlA w a1 l1 v.items → V.SlS w a2 l2 v.names →
      Calls Tryd.prog 12 #[.agg #[.int .i64 v.k, .int .i64 v.a.x, .int .i64 v.a.n, .string v.a.t, .string v.a.y, .slice a1 l1 c1, .slice a2 l2 c2]] w fun e w' => e = .returned (.string X) ∧ Below w.heap.size w w') := by
  by_cases hg : V.GoodVal v
  · exact ⟨_, fun a1 a2 l1 c1 l2 c2 w hs hs2 => V.sValueText_yes v hv a1 a2 l1 c1 l2 c2 w hs hs2 hg, fun a1 a2 l1 c1 l2 c2 w hl hT hs hs2 => V.iValueText_yes v hv a1 a2 l1 c1 l2 c2 w hl hT hs hs2 hg⟩
  · exact ⟨_, fun a1 a2 l1 c1 l2 c2 w hs hs2 => V.sValueText_not v hv a1 a2 l1 c1 l2 c2 w hs hs2 hg, fun a1 a2 l1 c1 l2 c2 w hl _ hs hs2 => V.iValueText_not v hv a1 a2 l1 c1 l2 c2 w hl hs hs2 hg⟩

set_option maxHeartbeats 1000000 in
theorem walk (v : ValT) (a1 a2 : Option Addr) (l1 c1 l2 c2 : Nat) (w : World) (hv : v.Ok) (hs1 : SlA w a1 l1 v.items) (hs2 : SlS w a2 l2 v.names) (hl1 : l1 ≤ maxLen) (hl2 : l2 ≤ maxLen) (hT : Tab w) :
    Calls Tryd.prog 4 #[.agg #[.int .i64 v.k, .int .i64 v.a.x, .int .i64 v.a.n, .string v.a.t, .string v.a.y, .slice a1 l1 c1, .slice a2 l2 c2]] w fun e w' => e = .returned (.bool true) ∧ Below w.heap.size w w' := by
  have qz := hide (fun q w h0 h1 hs1 hs2 => szValue_any v hv a1 a2 l1 c1 l2 c2 q w h0 h1 hl1 hl2 hs1 hs2)
  have qt := hide (fun w g1 g2 hs1 hs2 => toValue_any v a1 a2 l1 c1 l2 c2 w g1 g2 hs1 hs2)
  obtain ⟨X, tS, tI⟩ := valueTexts v hv
  have TS := hide tS
  have TI := hide tI
  have HT := hide hT
  clear tS tI hT
  have HS1 := hide hs1
  have HS2 := hide hs2
  have HV := hide hv
  have M1 := hide hl1
  have M2 := hide hl2
  clear hs1 hs2 hv hl1 hl2
  go_enter Tryd.func4, Tryd.ntmps4
  go_wp2_with fail
  refine (unhide qz _ _ (by omega) (by omega) ((unhide HS1).keep (bAl (Below.refl _ _) _)) ((unhide HS2).keep (bAl (Below.refl _ _) _))).mono ?_
  rintro e w1 ⟨⟨m, hm1, hm2, hm3, rfl⟩, hb1⟩
  have qv := (ValAt.new w v (.slice a1 l1 c1) (.slice a2 l2 c2) 32).keep hb1
  have bw := bTr (bAl (Below.refl _ _) _) hb1
  clear hb1 qz
  by_cases hm : m < 0
  · go_wp2_with fail
    go_ret
    exact ⟨rfl, bw⟩
  have g1 : l1 ≤ 1048576 := by omega
  have g2 : l2 ≤ 1048576 := by omega
  have QT := hide (fun w hs1 hs2 => unhide qt w g1 g2 hs1 hs2)
  clear qt hm3
  obtain ⟨d0, d1, d2, d3, d4, d5, d6, _⟩ := hide qv
  go_wp2_with fail
  refine (unhide QT _ ((unhide HS1).keep bw) ((unhide HS2).keep bw)).mono ?_
  rintro e w2 ⟨b1, b2, rfl, r1, r2, hb2⟩
  have hs := hide (unhide TS (some ⟨b1, 0, none⟩) (some ⟨b2, 0, none⟩) l1 l1 l2 l2 w2 ⟨(unhide HS1).1, .inr ⟨b1, 0, rfl, r1⟩⟩ ⟨(unhide HS2).1, .inr ⟨b2, 0, rfl, r2⟩⟩)
  replace bw := bTr bw hb2
  replace qv := qv.keep hb2
  clear hb2 d0 d1 d2 d3 d4 d5 d6 r1 r2
  go_wp2_with fail
  refine (unhide hs).mono ?_
  rintro e w3 ⟨rfl, hb3⟩
  replace bw := bTr bw hb3
  replace qv := qv.keep hb3
  clear hb3 hs
  obtain ⟨d0, d1, d2, d3, d4, d5, d6, _⟩ := hide qv
  go_wp2_with fail
  refine (unhide QT _ ((unhide HS1).keep bw) ((unhide HS2).keep bw)).mono ?_
  rintro e w4 ⟨b3, b4, rfl, r3, r4, hb4⟩
  replace bw := bTr bw hb4
  replace qv := qv.keep hb4
  clear hb4 d0 d1 d2 d3 d4 d5 d6
  obtain ⟨W5, hW5⟩ : ∃ W, W = w4.alloc (.cells #[.int .i64 v.k, .int .i64 v.a.x, .int .i64 v.a.n, .string v.a.t, .string v.a.y, .slice (some ⟨b3, 0, none⟩) l1 l1, .slice (some ⟨b4, 0, none⟩) l2 l2] 37) := ⟨_, rfl⟩
  have HW5 := hide hW5
  have b45 : Below w4.heap.size w4 W5 := by rw [hW5]; exact bAl (Below.refl _ _) _
  have qx : ValAt W5 w4.heap.size v (.slice (some ⟨b3, 0, none⟩) l1 l1) (.slice (some ⟨b4, 0, none⟩) l2 l2) := by rw [hW5]; exact ValAt.new w4 v _ _ _
  have s3 : Hid (SlA W5 (some ⟨b3, 0, none⟩) l1 v.items) := hide ⟨(unhide HS1).1, .inr ⟨b3, 0, rfl, r3.keep b45⟩⟩
  have s4 : Hid (SlS W5 (some ⟨b4, 0, none⟩) l2 v.names) := hide ⟨(unhide HS2).1, .inr ⟨b4, 0, rfl, r4.keep b45⟩⟩
  have hi := hide (unhide TI (some ⟨b3, 0, none⟩) (some ⟨b4, 0, none⟩) l1 l1 l2 l2 W5 (unhide M1) ((unhide HT).keep (bTr bw b45)) (unhide s3) (unhide s4))
  replace bw := bTr bw b45
  replace qv := qv.keep b45
  clear hW5 b45 r3 r4
  go_wp2_with fail
  rw [← unhide HW5]
  clear HW5
  refine (unhide hi).mono ?_
  rintro e w6 ⟨rfl, hb6⟩
  replace bw := bTr bw hb6
  replace qv := qv.keep hb6
  replace qx := qx.keep hb6
  replace s3 := hide ((unhide s3).keep hb6)
  replace s4 := hide ((unhide s4).keep hb6)
  clear hb6 hi TS TI
  have QV := hide qv
  have QX := hide qx
  clear qv qx
  go_wp2_with fail
  go_region_held3 (fun w' => (w'.cell? ⟨w.heap.size, 0, none⟩ = some (.int .i64 v.k) ∧ w'.cell? ⟨w.heap.size, 1, none⟩ = some (.int .i64 v.a.x) ∧ w'.cell? ⟨w.heap.size, 2, none⟩ = some (.int .i64 v.a.n) ∧ w'.cell? ⟨w.heap.size, 3, none⟩ = some (.string v.a.t)
      ∧ w'.cell? ⟨w.heap.size, 4, none⟩ = some (.string v.a.y) ∧ w'.cell? ⟨w.heap.size, 5, none⟩ = some (.slice a1 l1 c1) ∧ w'.cell? ⟨w.heap.size, 6, none⟩ = some (.slice a2 l2 c2))
      ∧ (w'.cell? ⟨w4.heap.size, 0, none⟩ = some (.int .i64 v.k) ∧ w'.cell? ⟨w4.heap.size, 1, none⟩ = some (.int .i64 v.a.x) ∧ w'.cell? ⟨w4.heap.size, 2, none⟩ = some (.int .i64 v.a.n) ∧ w'.cell? ⟨w4.heap.size, 3, none⟩ = some (.string v.a.t)
      ∧ w'.cell? ⟨w4.heap.size, 4, none⟩ = some (.string v.a.y) ∧ w'.cell? ⟨w4.heap.size, 5, none⟩ = some (.slice (some ⟨b3, 0, none⟩) l1 l1) ∧ w'.cell? ⟨w4.heap.size, 6, none⟩ = some (.slice (some ⟨b4, 0, none⟩) l2 l2)))
    ((first
      | exact ⟨(unhide QV).seven (Below.refl _ _), (unhide QX).seven (Below.refl _ _)⟩
      | exact ⟨(unhide QV).seven (Below.refl _ _).drew, (unhide QX).seven (Below.refl _ _).drew⟩
      | exact ⟨(unhide QV).seven (undrew hb7), (unhide QX).seven (undrew hb7)⟩
      | exact ⟨(unhide QV).seven (bTr (undrew hb7) hb8), (unhide QX).seven (bTr (undrew hb7) hb8)⟩))
    (first
      | (go_at_call 11; refine (unhide QT _ ((unhide HS1).keep bw.drew) ((unhide HS2).keep bw.drew)).mono ?_; rintro e w7 ⟨b5, b6, rfl, r5, r6, hb7⟩)
      | (go_at_call 13; refine (eqValue_same v (some ⟨b3, 0, none⟩) (some ⟨b4, 0, none⟩) (some ⟨b5, 0, none⟩) (some ⟨b6, 0, none⟩) l1 l1 l2 l2 l1 l1 l2 l2 _ (unhide M1) (unhide M2) ((unhide s3).keep (undrew hb7)) ((unhide s4).keep (undrew hb7)) ⟨(unhide HS1).1, .inr ⟨b5, 0, rfl, r5⟩⟩ ⟨(unhide HS2).1, .inr ⟨b6, 0, rfl, r6⟩⟩).mono ?_; rintro e w8 ⟨rfl, hb8⟩))
  all_goals
    go_wp2_with fail
    go_ret
    exact ⟨rfl, bTr (bTr bw (undrew hb7)) hb8⟩

set_option maxRecDepth 100000 in
theorem lifted (os : Os) (started : os.Started) (H : Type) (enc : TypeId × Value → H) :
    ReturnsInHanded {} Tryd.checked os 4 .any (fun w args => (Rows.fnExactValueTextSpec.pre enc Tryd.prog Tryd.f4 [] false w args ∧ laidMetH Tryd.prog laidL w) ∧ sizedMet enc Tryd.prog Tryd.f4 (OpenSpec.ofChange Rows.fnExactValueTextSpec) false w args)
      (Rows.fnExactValueTextSpec.post enc Tryd.prog Tryd.f4 false true false false) := by
  refine returnsInHanded_of_change_and (C := Tryd.checked) (X := fun w _ => laidMetH Tryd.prog laidL w) (fun _ _ _ hh h => h.of_heap hh) own started (by kernel_rfl) Tryd.func4
    (ChangeSpec.witness_shaped (enc := enc) (C := Tryd.checked) (os := os) (X := fun w _ => laidMetH Tryd.prog laidL w) false (World.doorLaid Tryd.prog 400 os) #[.agg #[.int .i64 0, .int .i64 0, .int .i64 0, .string ByteArray.empty, .string ByteArray.empty, .slice none 0 0, .slice none 0 0]] 8 rfl (World.shaped_of_RefB (by kernel_rfl) (by kernel_rfl)) (by kernel_rfl) (by kernel_rfl) (by kernel_rfl) (door_met os _)) ?_
  intro W base args ds gs before hval0 hW _ _ hL _
  have hval : ∀ (j : Nat) t v, Tryd.f4.params[j]? = some t → args[j]? = some v → Value.okWide Tryd.prog W .any base t v := hval0
  have hW' := hW
  obtain ⟨p, q, hA0, hV, rfl, hfz, hnd⟩ := hW
  have hA : DataW.TrodAll enc Tryd.prog W 0 (fun _ => true) true Tryd.f4.params.toList args.toList ds p := hA0
  rw [Tryd.params4] at hA hval
  obtain ⟨v0, vs0, d0, ds0, p0, q0, hargs, rfl, rfl, h0, r0⟩ := trodAll_cons hA
  obtain ⟨rfl, rfl, rfl⟩ := trodAll_nil r0
  obtain rfl : args = #[v0] := by cases args; simp_all
  obtain ⟨rfl, rfl⟩ := trodVars_none hV
  have k0 := h0
  have lt0 : ∀ x ∈ p0, x.block < W.heap.size := by obtain ⟨m, hm⟩ := k0; exact DataW.trod_lt m _ _ _ hm
  obtain ⟨v, a1, a2, l1, c1, l2, c2, e0, hok, s1, s2, m1, m2⟩ := read_value (hval 0 32 v0 rfl rfl) h0
  subst e0
  clear hA0 hval0
  refine (walk v a1 a2 l1 c1 l2 c2 W hok s1 s2 m1 m2 (tab_of_laid hL)).mono fun e W' ⟨he, bel⟩ => ?_
  subst he
  exact ⟨_, rfl, _, _, _, [], _, [], hW', trodAll_mk1 (shut_bool Tryd.underlying4 _), (trodAll_cons_mk (Below.trod laidOut (by kernel_rfl) (of_decide_eq_true (by kernel_rfl)) k0 bel lt0) trodAll_mk0), rfl, bel.frame _, fun h => by cases h⟩

theorem row : Rows.FnExactValueTextSaid :=
  OpenClaim.holds_of_wide 4 Tryd.f4 rfl rfl rfl rfl rfl rfl rfl ⟨rfl, rfl, rfl, rfl, rfl⟩ rfl rfl rfl rfl rfl (by kernel_rfl) Tryd.func4 (by kernel_rfl)
    (of_decide_eq_true (by kernel_rfl)) (by unfold Func.isWrapper; first | (rw [if_pos (by decide +kernel)]; kernel_rfl) | (rw [if_neg (by decide +kernel)]; exact ⟨rfl, rfl⟩))
    (fun os started H enc _ => lifted os started H enc)
theorem card : Rows.FnExactValueTextCardSaid :=
  Claim7.holds_tied_plain_at .later [] [.data, .data, .data] true (true, "a48e19784cc3adb8627caad382c12fdbf09043b4ea73b561e6c1cace18afbcce") false
    row (fun _ h => by cases h) (by kernel_rfl) (fun _ h => by cases h) fnExactValueText_row_tie rfl ⟨rfl, rfl⟩ (by kernel_rfl) rfl
    (fun f fn hf hfn => by
      obtain rfl : f = 4 := Option.some.inj ((show Tryd.prog.funcNamed "loop.example/g00036/laws.FnExactValueText" = some 4 by kernel_rfl).symm.trans hf) |>.symm
      obtain rfl : fn = Tryd.f4 := (Option.some.inj (Tryd.func4.symm.trans hfn)).symm
      exact ⟨by kernel_rfl, fun j t ht => by
        rw [Tryd.params4] at ht
        have hm : t ∈ [32] := by simpa using Array.mem_of_getElem? ht
        have hall : ([32].all fun u => !Tryd.prog.wantsStandIn u) = true := by kernel_rfl
        exact (show Tryd.prog.wantsStandIn t = false by simpa using List.all_eq_true.1 hall t hm)⟩)
    (by kernel_rfl)
end Go.Proofs.YtijfgfdagfchiaaDoor.fnExactValueText
namespace Go.Proofs.YtijfgfdagfchiaaDoor
theorem fnExactValueText_holds : Rows.FnExactValueTextCardSaid := fnExactValueText.card
end Go.Proofs.YtijfgfdagfchiaaDoor
