/- The row of laws.FnExactGoodRing: its walk, then the row's step. -/
import Derived.Test.YtmaiegioancnoaaRows
import Derived.Test.YtmaiegioancnoaaKRs
import Derived.WalkKit
import Derived.ProofKit
import Derived.OpenShut
import Derived.ShutString
import Derived.ChangeOld
import Derived.Below
import Derived.Lib.SmallJoins
namespace Go.Proofs.Ytmaiegioancnoaa.fnExactGoodRing
open Go.ChangeShapes Go.WideShapes Go.ChangeAt Go.RowKit Go.Joins
open Go.ChangeMaps (open_string shut_string)
set_option linter.unusedVariables false

theorem own : ownKnob Try.prog.godebug = none := by kernel_rfl
theorem laidOut : laidOutB Try.prog = true := by kernel_rfl

set_option maxHeartbeats 1000000 in
theorem walk (l : List KeyT) (a : Option Addr) (len cap : Nat) (w : World) (hs : SlKey w a len l) (hok : ∀ q ∈ l, KeyT.Ok q) (hl : len ≤ maxLen) :
    Calls Try.prog 3 #[.slice a len cap] w fun e w' => e = .returned (.bool true) ∧ Below w.heap.size w w' := by
  have qz := hide (fun q w h0 h1 hs => szKeyS_any a len cap l q w h0 h1 hl hs hok)
  have HS := hide hs
  have HO := hide hok
  have HL := hide hl
  have hll := hide hs.1
  clear hs hok hl
  go_enter Try.func3, Try.ntmps3
  go_wp2_with fail
  refine (unhide qz _ _ (by omega) (by omega) (unhide HS)).mono ?_
  rintro e w1 ⟨⟨m, hm1, hm2, hm3, rfl⟩, hb1⟩
  have B1 := hide hb1
  clear hb1 qz
  by_cases hm : m < 0
  · go_wp2_with fail
    go_ret
    exact ⟨rfl, unhide B1⟩
  have g1 : len ≤ 1048576 := by omega
  clear hm3
  go_wp2_with fail
  refine (toKeyS_own a len cap l _ g1 ((unhide HS).keep (unhide B1))).mono ?_
  rintro e w2 ⟨rfl, ⟨_, _, _, r2⟩, hb2⟩
  have S2 := hide (show SlKey w2 (some ⟨w1.heap.size, 0, none⟩) len l from ⟨unhide hll, .inr ⟨_, 0, rfl, r2⟩⟩)
  have B2 := hide (bTr (unhide B1) hb2)
  clear hb2 r2 B1
  go_wp2_with fail
  refine (sGoodRing_any _ len _ l _ (unhide HL) (unhide S2) (unhide HO)).mono ?_
  rintro e w3 ⟨⟨t1, rfl, ht1⟩, hb3⟩
  have T1 := hide ht1
  have B3 := hide (bTr (unhide B2) hb3)
  clear hb3 S2 B2 ht1
  go_wp2_with fail
  refine (toKeyS_own a len cap l _ g1 ((unhide HS).keep (unhide B3))).mono ?_
  rintro e w4 ⟨rfl, ⟨_, _, _, r4⟩, hb4⟩
  have S4 := hide (show SlKey w4 (some ⟨w3.heap.size, 0, none⟩) len l from ⟨unhide hll, .inr ⟨_, 0, rfl, r4⟩⟩)
  have B4 := hide (bTr (unhide B3) hb4)
  clear hb4 r4 B3
  go_wp2_with fail
  refine (iGoodRing_any _ len _ l _ (by rw [← unhide hll]; exact unhide HL) (unhide S4) (unhide HO)).mono ?_
  rintro e w5 ⟨⟨t2, rfl, ht2⟩, hb5⟩
  obtain rfl : t2 = t1 := by
    have h := unhide T1
    cases t1 <;> cases t2 <;> simp_all
  have B5 := hide (bTr (unhide B4) hb5)
  have S5 := hide ((unhide S4).keep hb5)
  clear hb5 S4 B4 ht2 T1
  have he : (t2 != t2) = false := by simp
  go_wp2_with fail
  refine (toKeyS_own a len cap l _ g1 ((unhide HS).keep (unhide B5))).mono ?_
  rintro e w6 ⟨rfl, ⟨_, _, _, r6⟩, hb6⟩
  have S6 := hide (show SlKey w6 (some ⟨w5.heap.size, 0, none⟩) len l from ⟨unhide hll, .inr ⟨_, 0, rfl, r6⟩⟩)
  have B6 := hide (bTr (unhide B5) hb6)
  have S7 := hide ((unhide S5).keep hb6)
  clear hb6 r6 B5 S5
  go_wp2_with fail
  refine (eqKeyS_same _ _ len len len len l _ (unhide S7) (unhide S6) (unhide HL)).mono ?_
  rintro e w7 ⟨rfl, hb7⟩
  have B7 := hide (bTr (unhide B6) hb7)
  clear hb7
  go_wp2_with fail
  go_ret
  exact ⟨rfl, unhide B7⟩

set_option maxRecDepth 100000 in
theorem lifted (os : Os) (started : os.Started) (H : Type) (enc : TypeId × Value → H) :
    ReturnsInHanded {} Try.checked os 3 .any (Rows.fnExactGoodRingSpec.pre6 enc Try.prog Try.f3 Rows.fnExactGoodRingRow.domain false) (Rows.fnExactGoodRingSpec.post enc Try.prog Try.f3 false true false false) := by
  refine returnsInHanded_of_change (C := Try.checked) own started (by kernel_rfl) Try.func3
    (ChangeSpec.witness6 (enc := enc) (C := Try.checked) false ⟨#[], #[.slice none 0 0], []⟩ 8 (by kernel_rfl) (by kernel_rfl) (by kernel_rfl) (by kernel_rfl)) ?_
  intro W base args ds gs before hval0 hW hcnd _
  have hval : ∀ (j : Nat) t v, Try.f3.params[j]? = some t → args[j]? = some v → Value.okWide Try.prog W .any base t v := hval0
  have hW' := hW
  obtain ⟨p, q, hA0, hV, rfl, hfz, hnd⟩ := hW
  have hA : DataW.TrodAll enc Try.prog W 0 (fun _ => true) true Try.f3.params.toList args.toList ds p := hA0
  rw [Try.params3] at hA hval
  obtain ⟨v0, vs0, d0, ds0, p0, q0, hargs, rfl, rfl, h0, r0⟩ := trodAll_cons hA
  obtain ⟨rfl, rfl, rfl⟩ := trodAll_nil r0
  obtain rfl : args = #[v0] := by cases args; simp_all
  obtain ⟨rfl, rfl⟩ := trodVars_none hV
  have k0 := h0
  have lt0 : ∀ x ∈ p0, x.block < W.heap.size := by obtain ⟨m, hm⟩ := k0; exact DataW.trod_lt m _ _ _ hm
  obtain ⟨l0, a0, len0, cap0, e0, s0, o0, m0⟩ := read_Keys (hval 0 22 v0 rfl rfl) h0
  subst e0
  clear hA0 hval0
  refine (walk l0 a0 len0 cap0 W s0 o0 m0).mono fun e W' ⟨he, bel⟩ => ?_
  subst he
  exact ⟨_, rfl, _, _, _, [], _, [], hW', trodAll_mk1 (shut_bool Try.underlying4 _), (trodAll_cons_mk (Below.trod laidOut (by kernel_rfl) (of_decide_eq_true (by kernel_rfl)) k0 bel lt0) trodAll_mk0), rfl, bel.frame _, fun h => by cases h⟩

theorem over : Rows.fnExactGoodRingRow.holds Try.pinned (OpenSpec.ofChange Rows.fnExactGoodRingSpec) :=
  OpenClaim.holds_of_wide 3 Try.f3 rfl rfl rfl rfl rfl rfl rfl ⟨rfl, rfl, rfl, rfl, rfl⟩ rfl rfl rfl rfl rfl (by kernel_rfl) Try.func3 (by kernel_rfl)
    (of_decide_eq_true (by kernel_rfl)) (by unfold Func.isWrapper; rw [if_neg (by decide +kernel)]; exact ⟨rfl, rfl⟩)
    (fun os started H enc _ => lifted os started H enc)
end Go.Proofs.Ytmaiegioancnoaa.fnExactGoodRing
namespace Go.Proofs.Ytmaiegioancnoaa
theorem fnExactGoodRing_holds : Rows.FnExactGoodRingSaid := fnExactGoodRing.over
end Go.Proofs.Ytmaiegioancnoaa
