/- The row of laws.FnExactGoodCaveat: its walk, then the row's step. -/
import Derived.Test.YtmkgehcfdcoliaaRows
import Derived.Test.YtmkgehcfdcoliaaRSpC
import Derived.Test.YtmkgehcfdcoliaaRImC
import Derived.Test.YtmkgehcfdcoliaaRCav
import Derived.WalkKit
import Derived.ProofKit
import Derived.OpenShut
import Derived.ShutString
import Derived.ChangeOld
import Derived.Below
import Derived.Lib.SmallJoins
import Derived.Deep.RegionHeld3
namespace Go.Proofs.Ytmkgehcfdcoliaa.fnExactGoodCaveat
open Go.ChangeShapes Go.WideShapes Go.ChangeAt Go.RowKit Go.Joins
open Go.ChangeMaps (open_string shut_string)
set_option linter.unusedVariables false

theorem own : ownKnob Try.prog.godebug = none := by kernel_rfl
theorem laidOut : laidOutB Try.prog = true := by kernel_rfl

open V in
set_option maxHeartbeats 1000000 in
theorem walk (n : ByteArray) (l : List V.ParamT) (ts : List V.CavTermT) (a1 a2 : Option Addr) (l1 c1 l2 c2 : Nat) (w : World) (hn : n.size ≤ maxLen)
    (hs1 : V.SlParam w a1 l1 l) (hs2 : V.SlCavTerm w a2 l2 ts) (hok : ∀ q ∈ l, V.ParamT.Ok q) (hot : ∀ q ∈ ts, V.CavTermT.Ok q) (hl1 : l1 ≤ maxLen) (hl2 : l2 ≤ maxLen) :
    Calls Try.prog 3 #[.agg #[.string n, .slice a1 l1 c1, .slice a2 l2 c2]] w fun e w' => e = .returned (.bool true) ∧ Below w.heap.size w w' := by
  have qz := hide (fun q w h0 h1 hs1 hs2 => szCaveat_any n l ts a1 a2 l1 c1 l2 c2 q w h0 h1 hn hl1 hl2 hs1 hs2 hok hot)
  have qt := hide (fun w g1 g2 hs1 hs2 => toCaveat_any n l ts a1 a2 l1 c1 l2 c2 w g1 g2 hs1 hs2)
  have HS1 := hide hs1
  have HS2 := hide hs2
  have HN := hide hn
  have HO := hide hok
  have HT := hide hot
  have M1 := hide hl1
  have M2 := hide hl2
  clear hs1 hs2 hn hl1 hl2 hok hot
  have R0 := hide (V.RowIs.new w #[.string n, .slice a1 l1 c1, .slice a2 l2 c2] 25)
  go_enter Try.func3, Try.ntmps3
  go_wp2_with fail
  refine (unhide qz _ _ (by omega) (by omega) ((unhide HS1).keep (bAl (Below.refl _ _) _)) ((unhide HS2).keep (bAl (Below.refl _ _) _))).mono ?_
  rintro e w1 ⟨⟨m, hm1, hm2, hm3, rfl⟩, hb1⟩
  have qv := hide ((unhide R0).keep hb1)
  have bw := bTr (bAl (Below.refl _ _) _) hb1
  clear hb1 qz R0
  by_cases hm : m < 0
  · go_wp2_with fail
    go_ret
    exact ⟨rfl, bw⟩
  have g1 : l1 ≤ 1048576 := by omega
  have g2 : l2 ≤ 1048576 := by omega
  have QT := hide (fun w hs1 hs2 => unhide qt w g1 g2 hs1 hs2)
  clear qt hm3
  have d0 := (unhide qv).at (o := 0) (v := .string n) rfl
  have d1 := (unhide qv).at (o := 1) (v := .slice a1 l1 c1) rfl
  have d2 := (unhide qv).at (o := 2) (v := .slice a2 l2 c2) rfl
  go_wp2_with fail
  refine (unhide QT _ ((unhide HS1).keep bw) ((unhide HS2).keep bw)).mono ?_
  rintro e w2 ⟨b1, b2, rfl, r1, r2, hb2⟩
  have hs := hide (sGoodCaveat_any n l ts (some ⟨b1, 0, none⟩) (some ⟨b2, 0, none⟩) l1 l1 l2 l2 w2 (unhide HN) g1 g2 ⟨(unhide HS1).1, .inr ⟨b1, 0, rfl, r1⟩⟩ ⟨(unhide HS2).1, .inr ⟨b2, 0, rfl, r2⟩⟩ (unhide HO) (unhide HT))
  replace bw := bTr bw hb2
  replace qv := hide ((unhide qv).keep hb2)
  clear hb2 d0 d1 d2 r1 r2
  go_wp2_with fail
  refine (unhide hs).mono ?_
  rintro e w3 ⟨⟨g, rfl, hg⟩, hb3⟩
  have HG := hide hg
  replace bw := bTr bw hb3
  replace qv := hide ((unhide qv).keep hb3)
  clear hb3 hs hg
  have d0 := (unhide qv).at (o := 0) (v := .string n) rfl
  have d1 := (unhide qv).at (o := 1) (v := .slice a1 l1 c1) rfl
  have d2 := (unhide qv).at (o := 2) (v := .slice a2 l2 c2) rfl
  go_wp2_with fail
  refine (unhide QT _ ((unhide HS1).keep bw) ((unhide HS2).keep bw)).mono ?_
  rintro e w4 ⟨b3, b4, rfl, r3, r4, hb4⟩
  replace bw := bTr bw hb4
  replace qv := hide ((unhide qv).keep hb4)
  clear hb4 d0 d1 d2
  obtain ⟨W5, hW5⟩ : ∃ W, W = w4.alloc (.cells #[.string n, .slice (some ⟨b3, 0, none⟩) l1 l1, .slice (some ⟨b4, 0, none⟩) l2 l2] 31) := ⟨_, rfl⟩
  have HW5 := hide hW5
  have b45 : Below w4.heap.size w4 W5 := by rw [hW5]; exact bAl (Below.refl _ _) _
  have qx := hide (show V.RowIs W5 w4.heap.size #[.string n, .slice (some ⟨b3, 0, none⟩) l1 l1, .slice (some ⟨b4, 0, none⟩) l2 l2] 31 by rw [hW5]; exact V.RowIs.new w4 _ _)
  have s3 : Hid (V.SlParam W5 (some ⟨b3, 0, none⟩) l1 l) := hide ⟨(unhide HS1).1, .inr ⟨b3, 0, rfl, r3.keep b45⟩⟩
  have s4 : Hid (V.SlCavTerm W5 (some ⟨b4, 0, none⟩) l2 ts) := hide ⟨(unhide HS2).1, .inr ⟨b4, 0, rfl, r4.keep b45⟩⟩
  have hi := hide (iGoodCaveat_any n l ts (some ⟨b3, 0, none⟩) (some ⟨b4, 0, none⟩) l1 l1 l2 l2 W5 (unhide HN) g1 g2 (unhide s3) (unhide s4) (unhide HO) (unhide HT))
  replace bw := bTr bw b45
  replace qv := hide ((unhide qv).keep b45)
  clear hW5 b45 r3 r4
  go_wp2_with fail
  rw [← unhide HW5]
  clear HW5
  refine (unhide hi).mono ?_
  rintro e w6 ⟨⟨g', rfl, hg'⟩, hb6⟩
  obtain rfl : g' = g := by
    have h := unhide HG
    cases g <;> cases g' <;> simp_all
  replace bw := bTr bw hb6
  replace qv := hide ((unhide qv).keep hb6)
  replace qx := hide ((unhide qx).keep hb6)
  replace s3 := hide ((unhide s3).keep hb6)
  replace s4 := hide ((unhide s4).keep hb6)
  clear hb6 hi hg' HG
  have QV : Hid (∀ w', Below w6.heap.size w6 w' → w'.cell? ⟨w.heap.size, 0, none⟩ = some (.string n) ∧ w'.cell? ⟨w.heap.size, 1, none⟩ = some (.slice a1 l1 c1) ∧ w'.cell? ⟨w.heap.size, 2, none⟩ = some (.slice a2 l2 c2)) :=
    hide (fun w' h => have k := (unhide qv).keep h; ⟨k.at rfl, k.at rfl, k.at rfl⟩)
  have QX : Hid (∀ w', Below w6.heap.size w6 w' → w'.cell? ⟨w4.heap.size, 0, none⟩ = some (.string n) ∧ w'.cell? ⟨w4.heap.size, 1, none⟩ = some (.slice (some ⟨b3, 0, none⟩) l1 l1) ∧ w'.cell? ⟨w4.heap.size, 2, none⟩ = some (.slice (some ⟨b4, 0, none⟩) l2 l2)) :=
    hide (fun w' h => have k := (unhide qx).keep h; ⟨k.at rfl, k.at rfl, k.at rfl⟩)
  clear qv qx
  go_wp2_with fail
  go_region_held3 (fun w' => (w'.cell? ⟨w.heap.size, 0, none⟩ = some (.string n) ∧ w'.cell? ⟨w.heap.size, 1, none⟩ = some (.slice a1 l1 c1) ∧ w'.cell? ⟨w.heap.size, 2, none⟩ = some (.slice a2 l2 c2))
      ∧ (w'.cell? ⟨w4.heap.size, 0, none⟩ = some (.string n) ∧ w'.cell? ⟨w4.heap.size, 1, none⟩ = some (.slice (some ⟨b3, 0, none⟩) l1 l1) ∧ w'.cell? ⟨w4.heap.size, 2, none⟩ = some (.slice (some ⟨b4, 0, none⟩) l2 l2)))
    ((first
      | exact ⟨unhide QV _ (Below.refl _ _), unhide QX _ (Below.refl _ _)⟩
      | exact ⟨unhide QV _ (Below.refl _ _).drew, unhide QX _ (Below.refl _ _).drew⟩
      | exact ⟨unhide QV _ (V.undrew hb7), unhide QX _ (V.undrew hb7)⟩
      | exact ⟨unhide QV _ (bTr (V.undrew hb7) hb8), unhide QX _ (bTr (V.undrew hb7) hb8)⟩))
    (first
      | (go_at_call 7; refine (unhide QT _ ((unhide HS1).keep bw.drew) ((unhide HS2).keep bw.drew)).mono ?_; rintro e w7 ⟨b5, b6, rfl, r5, r6, hb7⟩)
      | (go_at_call 9; refine (eqCaveat_same n l ts (some ⟨b3, 0, none⟩) (some ⟨b4, 0, none⟩) (some ⟨b5, 0, none⟩) (some ⟨b6, 0, none⟩) l1 l1 l2 l2 l1 l1 l2 l2 _ (unhide M1) (unhide M2) ((unhide s3).keep (V.undrew hb7)) ((unhide s4).keep (V.undrew hb7)) ⟨(unhide HS1).1, .inr ⟨b5, 0, rfl, r5⟩⟩ ⟨(unhide HS2).1, .inr ⟨b6, 0, rfl, r6⟩⟩).mono ?_; rintro e w8 ⟨rfl, hb8⟩))
  all_goals
    go_wp2_with fail
    go_ret
    exact ⟨rfl, bTr (bTr bw (V.undrew hb7)) hb8⟩

set_option maxRecDepth 100000 in
theorem lifted (os : Os) (started : os.Started) (H : Type) (enc : TypeId × Value → H) :
    ReturnsInHanded {} Try.checked os 3 .any (Rows.fnExactGoodCaveatSpec.pre6 enc Try.prog Try.f3 Rows.fnExactGoodCaveatRow.domain false) (Rows.fnExactGoodCaveatSpec.post enc Try.prog Try.f3 false true false false) := by
  refine returnsInHanded_of_change (C := Try.checked) own started (by kernel_rfl) Try.func3
    (ChangeSpec.witness6 (enc := enc) (C := Try.checked) false ⟨#[], #[.agg #[.string ByteArray.empty, .slice none 0 0, .slice none 0 0]], []⟩ 8 (by kernel_rfl) (by kernel_rfl) (by kernel_rfl) (by kernel_rfl)) ?_
  intro W base args ds gs before hval0 hW hcnd _
  have hval : ∀ (j : Nat) t v, Try.f3.params[j]? = some t → args[j]? = some v → Value.okWide Try.prog W .any base t v := hval0
  have hW' := hW
  obtain ⟨p, q, hA0, hV, rfl, hfz, hnd⟩ := hW
  have hA : DataW.TrodAll enc Try.prog W 0 (fun _ => true) true Try.f3.params.toList args.toList ds p := hA0
  rw [Try.params3] at hA hval
  obtain ⟨v0, vs0, d0, ds0, p0, q0, hargs, rfl, rfl, h0, r0⟩ := trodAll_cons hA
  obtain ⟨rfl, rfl, rfl⟩ := trodAll_nil r0
  obtain rfl : args = #[v0] := by cases args; simp_all
  obtain ⟨rfl, rfl⟩ := trodVars_none hV
  have k0 := h0
  have lt0 : ∀ x ∈ p0, x.block < W.heap.size := by obtain ⟨m, hm⟩ := k0; exact DataW.trod_lt m _ _ _ hm
  obtain ⟨n0, l0, t0, a0, z0, len0, cap0, lem0, cam0, e0, o0, s0, y0, u0, v0', m0, m0'⟩ := V.read_caveat (hval 0 25 v0 rfl rfl) h0
  subst e0
  clear hA0 hval0
  refine (walk n0 l0 t0 a0 z0 len0 cap0 lem0 cam0 W o0 s0 y0 u0 v0' m0 m0').mono fun e W' ⟨he, bel⟩ => ?_
  subst he
  exact ⟨_, rfl, _, _, _, [], _, [], hW', trodAll_mk1 (shut_bool Try.underlying4 _), (trodAll_cons_mk (Below.trod laidOut (by kernel_rfl) (of_decide_eq_true (by kernel_rfl)) k0 bel lt0) trodAll_mk0), rfl, bel.frame _, fun h => by cases h⟩

theorem over : Rows.fnExactGoodCaveatRow.holds Try.pinned (OpenSpec.ofChange Rows.fnExactGoodCaveatSpec) :=
  OpenClaim.holds_of_wide 3 Try.f3 rfl rfl rfl rfl rfl rfl rfl ⟨rfl, rfl, rfl, rfl, rfl⟩ rfl rfl rfl rfl rfl (by kernel_rfl) Try.func3 (by kernel_rfl)
    (of_decide_eq_true (by kernel_rfl)) (by unfold Func.isWrapper; rw [if_neg (by decide +kernel)]; exact ⟨rfl, rfl⟩)
    (fun os started H enc _ => lifted os started H enc)
end Go.Proofs.Ytmkgehcfdcoliaa.fnExactGoodCaveat
namespace Go.Proofs.Ytmkgehcfdcoliaa
theorem fnExactGoodCaveat_holds : Rows.FnExactGoodCaveatSaid := fnExactGoodCaveat.over
end Go.Proofs.Ytmkgehcfdcoliaa
