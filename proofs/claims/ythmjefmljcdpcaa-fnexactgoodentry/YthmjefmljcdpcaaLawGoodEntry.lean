/- The row of laws.FnExactGoodEntry: its walk, then the row's step. -/
import Derived.Test.YthmjefmljcdpcaaRows
import Derived.Test.YthmjefmljcdpcaaQGoE
import Derived.Test.YthmjefmljcdpcaaQEnt
import Derived.WalkKit
import Derived.ProofKit
import Derived.OpenShut
import Derived.ShutString
import Derived.ChangeOld
import Derived.Below
import Derived.Lib.SmallJoins
import Derived.Deep.RegionHeld3
namespace Go.Proofs.Ythmjefmljcdpcaa.fnExactGoodEntry
open Go.ChangeShapes Go.WideShapes Go.ChangeAt Go.RowKit Go.Joins
open Go.ChangeMaps (open_string shut_string)
set_option linter.unusedVariables false

theorem own : ownKnob Try.prog.godebug = none := by kernel_rfl
theorem laidOut : laidOutB Try.prog = true := by kernel_rfl

set_option maxHeartbeats 1000000 in
theorem walk (l : List PartT) (m : List AttrT) (a1 a2 : Option Addr) (l1 c1 l2 c2 : Nat) (w : World) (h1 : SlP w a1 l1 l) (o1 : ∀ q ∈ l, PartT.Ok q) (m1 : l1 ≤ maxLen) (h2 : SlA w a2 l2 m) (o2 : ∀ q ∈ m, AttrT.Ok q) (m2 : l2 ≤ maxLen) :
    Calls Try.prog 8 #[.agg #[.slice a1 l1 c1, .slice a2 l2 c2]] w fun e w' => e = .returned (.bool true) ∧ Below w.heap.size w w' := by
  have qz := hide (fun w h1 h2 => szEntry_any l m a1 a2 l1 c1 l2 c2 w h1 o1 m1 h2 o2 m2)
  have qs := hide (fun b1 b2 w g1 g2 => sGoodEntry_any l m b1 b2 l1 l2 w h1.1 h2.1 g1 g2 m1 m2 o1 o2)
  have qi := hide (fun b1 b2 w g1 g2 => iGoodEntry_any l m b1 b2 l1 l2 w h1.1 h2.1 g1 g2 m1 m2 o1 o2)
  have qe := hide (fun b1 b2 d1 d2 w (g1 : PartRow w b1 0 l) (g2 : AttrRow w b2 0 m) (k1 : PartRow w d1 0 l) (k2 : AttrRow w d2 0 m) => eqEntry_same l m (some ⟨b1, 0, none⟩) (some ⟨b2, 0, none⟩) (some ⟨d1, 0, none⟩) (some ⟨d2, 0, none⟩) l1 l1 l2 l2 l1 l1 l2 l2 w ⟨h1.1, .inr ⟨b1, 0, rfl, g1⟩⟩ ⟨h2.1, .inr ⟨b2, 0, rfl, g2⟩⟩ ⟨h1.1, .inr ⟨d1, 0, rfl, k1⟩⟩ ⟨h2.1, .inr ⟨d2, 0, rfl, k2⟩⟩ m1 m2 o2)
  have B0 := hide (bAl (Below.refl w.heap.size w) (.cells #[.slice a1 l1 c1, .slice a2 l2 c2] 50))
  have RP := hide (RowIs.new w #[.slice a1 l1 c1, .slice a2 l2 c2] 50)
  have HS1 := hide h1
  have HS2 := hide h2
  clear h1 h2 o1 o2 m1 m2
  go_enter Try.func8, Try.ntmps8
  go_wp2_with fail
  refine (unhide qz _ ((unhide HS1).keep (unhide B0)) ((unhide HS2).keep (unhide B0))).mono ?_
  rintro e w1 ⟨⟨p, hm1, hm2, hm3, rfl⟩, hb1⟩
  have B1 := hide (bTr (unhide B0) hb1)
  replace RP := hide ((unhide RP).keep hb1)
  have HM3 := hide hm3
  clear hb1 qz B0 hm3
  by_cases hm : p < 0
  · go_wp2_with fail
    go_ret
    exact ⟨rfl, unhide B1⟩
  have HM := hide (unhide HM3 (by omega))
  clear HM3
  have qt := hide (fun w h1 h2 => toEntry_any l m a1 a2 l1 c1 l2 c2 w h1 (unhide HM).1 h2 (unhide HM).2.1 (unhide HM).2.2)
  have x0 := (unhide RP).at (o := 0) (v := .slice a1 l1 c1) rfl
  have x1 := (unhide RP).at (o := 1) (v := .slice a2 l2 c2) rfl
  go_wp2_with fail
  refine (unhide qt _ ((unhide HS1).keep (unhide B1)) ((unhide HS2).keep (unhide B1))).mono ?_
  rintro e w2 ⟨⟨p1, p2, rfl, r1, r2⟩, hb2⟩
  have B2 := hide (bTr (unhide B1) hb2)
  replace RP := hide ((unhide RP).keep hb2)
  have R1 := hide r1
  have R2 := hide r2
  clear hb2 r1 r2 B1 x0 x1
  go_wp2_with fail
  refine (unhide qs _ _ _ (unhide R1) (unhide R2)).mono ?_
  rintro e w3 ⟨⟨g, rfl, hg⟩, hb3⟩
  have HG := hide hg
  have B3 := hide (bTr (unhide B2) hb3)
  replace RP := hide ((unhide RP).keep hb3)
  clear hb3 R1 R2 B2 hg qs
  have x0 := (unhide RP).at (o := 0) (v := .slice a1 l1 c1) rfl
  have x1 := (unhide RP).at (o := 1) (v := .slice a2 l2 c2) rfl
  go_wp2_with fail
  refine (unhide qt _ ((unhide HS1).keep (unhide B3)) ((unhide HS2).keep (unhide B3))).mono ?_
  rintro e w4 ⟨⟨q1, q2, rfl, r1, r2⟩, hb4⟩
  obtain ⟨W5, hW5⟩ : ∃ W, W = w4.alloc (.cells #[.slice (some ⟨q1, 0, none⟩) l1 l1, .slice (some ⟨q2, 0, none⟩) l2 l2] 55) := ⟨_, rfl⟩
  have HW5 := hide hW5
  have b45 : Below w4.heap.size w4 W5 := by rw [hW5]; exact bAl (Below.refl _ _) _
  have RX := hide (show RowIs W5 w4.heap.size #[.slice (some ⟨q1, 0, none⟩) l1 l1, .slice (some ⟨q2, 0, none⟩) l2 l2] 55 by rw [hW5]; exact RowIs.new _ _ _)
  have B4 := hide (bTr (bTr (unhide B3) hb4) b45)
  replace RP := hide (((unhide RP).keep hb4).keep b45)
  have R1 := hide (r1.keep b45)
  have R2 := hide (r2.keep b45)
  clear hb4 r1 r2 B3 x0 x1 hW5 b45
  go_wp2_with fail
  rw [← unhide HW5]
  clear HW5
  refine (unhide qi _ _ _ (unhide R1) (unhide R2)).mono ?_
  rintro e w6 ⟨⟨g', rfl, hg'⟩, hb6⟩
  obtain rfl : g' = g := by
    have h := unhide HG
    cases g <;> cases g' <;> simp_all
  have B6 := hide (bTr (unhide B4) hb6)
  replace RP := hide ((unhide RP).keep hb6)
  replace RX := hide ((unhide RX).keep hb6)
  replace R1 := hide ((unhide R1).keep hb6)
  replace R2 := hide ((unhide R2).keep hb6)
  clear hb6 B4 hg' HG qi
  have he : (g' != g') = false := by simp
  have four : Hid (∀ w', Below w6.heap.size w6 w' → w'.cell? ⟨w.heap.size, 0, none⟩ = some (.slice a1 l1 c1) ∧ w'.cell? ⟨w.heap.size, 1, none⟩ = some (.slice a2 l2 c2) ∧ w'.cell? ⟨w4.heap.size, 0, none⟩ = some (.slice (some ⟨q1, 0, none⟩) l1 l1) ∧ w'.cell? ⟨w4.heap.size, 1, none⟩ = some (.slice (some ⟨q2, 0, none⟩) l2 l2)) := hide (fun w' hb => ⟨((unhide RP).keep hb).at rfl, ((unhide RP).keep hb).at rfl, ((unhide RX).keep hb).at rfl, ((unhide RX).keep hb).at rfl⟩)
  go_wp2_with fail
  go_region_held3 (fun w' => w'.cell? ⟨w.heap.size, 0, none⟩ = some (.slice a1 l1 c1) ∧ w'.cell? ⟨w.heap.size, 1, none⟩ = some (.slice a2 l2 c2) ∧ w'.cell? ⟨w4.heap.size, 0, none⟩ = some (.slice (some ⟨q1, 0, none⟩) l1 l1) ∧ w'.cell? ⟨w4.heap.size, 1, none⟩ = some (.slice (some ⟨q2, 0, none⟩) l2 l2))
    ((first
      | exact unhide four _ (Below.refl _ _)
      | exact unhide four _ (Below.refl _ _).drew
      | exact unhide four _ (undrew hb7)
      | exact unhide four _ (bTr (undrew hb7) hb8)))
    (first
      | (go_at_call 29; refine (unhide qt _ ((unhide HS1).keep (unhide B6).drew) ((unhide HS2).keep (unhide B6).drew)).mono ?_; rintro e w7 ⟨⟨d1, d2, rfl, r5, r6⟩, hb7⟩)
      | (go_at_call 31; refine (unhide qe q1 q2 d1 d2 _ ((unhide R1).keep (undrew hb7)) ((unhide R2).keep (undrew hb7)) r5 r6).mono ?_; rintro e w8 ⟨rfl, hb8⟩))
  all_goals
    go_wp2_with fail
    go_ret
    exact ⟨rfl, bTr (bTr (unhide B6) (undrew hb7)) hb8⟩

set_option maxRecDepth 100000 in
theorem lifted (os : Os) (started : os.Started) (H : Type) (enc : TypeId × Value → H) :
    ReturnsInHanded {} Try.checked os 8 .any (Rows.fnExactGoodEntrySpec.pre6 enc Try.prog Try.f8 Rows.fnExactGoodEntryRow.domain false) (Rows.fnExactGoodEntrySpec.post enc Try.prog Try.f8 false true false false) := by
  refine returnsInHanded_of_change (C := Try.checked) own started (by kernel_rfl) Try.func8
    (ChangeSpec.witness6 (enc := enc) (C := Try.checked) false ⟨#[], #[.agg #[.slice none 0 0, .slice none 0 0]], []⟩ 8 (by kernel_rfl) (by kernel_rfl) (by kernel_rfl) (by kernel_rfl)) ?_
  intro W base args ds gs before hval0 hW hcnd _
  have hval : ∀ (j : Nat) t v, Try.f8.params[j]? = some t → args[j]? = some v → Value.okWide Try.prog W .any base t v := hval0
  have hW' := hW
  obtain ⟨p, q, hA0, hV, rfl, hfz, hnd⟩ := hW
  have hA : DataW.TrodAll enc Try.prog W 0 (fun _ => true) true Try.f8.params.toList args.toList ds p := hA0
  rw [Try.params8] at hA hval
  obtain ⟨v0, vs0, d0, ds0, p0, q0, hargs, rfl, rfl, h0, r0⟩ := trodAll_cons hA
  obtain ⟨rfl, rfl, rfl⟩ := trodAll_nil r0
  obtain rfl : args = #[v0] := by cases args; simp_all
  obtain ⟨rfl, rfl⟩ := trodVars_none hV
  have k0 := h0
  have lt0 : ∀ x ∈ p0, x.block < W.heap.size := by obtain ⟨m, hm⟩ := k0; exact DataW.trod_lt m _ _ _ hm
  obtain ⟨l0, y0, a0, z0, len0, cap0, lem0, cam0, e0, s0, o0, m0, t0, u0, n0⟩ := read_entry (hval 0 50 v0 rfl rfl) h0
  subst e0
  clear hA0 hval0
  refine (walk l0 y0 a0 z0 len0 cap0 lem0 cam0 W s0 o0 m0 t0 u0 n0).mono fun e W' ⟨he, bel⟩ => ?_
  subst he
  exact ⟨_, rfl, _, _, _, [], _, [], hW', trodAll_mk1 (shut_bool Try.underlying4 _), (trodAll_cons_mk (Below.trod laidOut (by kernel_rfl) (of_decide_eq_true (by kernel_rfl)) k0 bel lt0) trodAll_mk0), rfl, bel.frame _, fun h => by cases h⟩

theorem over : Rows.fnExactGoodEntryRow.holds Try.pinned (OpenSpec.ofChange Rows.fnExactGoodEntrySpec) :=
  OpenClaim.holds_of_wide 8 Try.f8 rfl rfl rfl rfl rfl rfl rfl ⟨rfl, rfl, rfl, rfl, rfl⟩ rfl rfl rfl rfl rfl (by kernel_rfl) Try.func8 (by kernel_rfl)
    (of_decide_eq_true (by kernel_rfl)) (by unfold Func.isWrapper; rw [if_neg (by decide +kernel)]; exact ⟨rfl, rfl⟩)
    (fun os started H enc _ => lifted os started H enc)
end Go.Proofs.Ythmjefmljcdpcaa.fnExactGoodEntry
namespace Go.Proofs.Ythmjefmljcdpcaa
theorem fnExactGoodEntry_holds : Rows.FnExactGoodEntrySaid := fnExactGoodEntry.over
end Go.Proofs.Ythmjefmljcdpcaa
