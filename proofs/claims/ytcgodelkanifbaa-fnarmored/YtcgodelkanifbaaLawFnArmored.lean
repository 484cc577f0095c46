/- The row of laws.FnArmored: its walk, then the row's step. -/
import Derived.Test.YtcgodelkanifbaaRows
import Derived.Test.YtcgodelkanifbaaZby
import Derived.WalkKit
import Derived.ProofKit
import Derived.OpenShut
import Derived.ShutString
import Derived.ChangeOld
import Derived.Below
import Derived.Lib.SmallJoins
namespace Go.Proofs.Ytcgodelkanifbaa.fnArmored
open Go.ChangeShapes Go.WideShapes Go.ChangeAt Go.RowKit Go.Joins
open Go.ChangeMaps (open_string shut_string)
set_option linter.unusedVariables false

theorem own : ownKnob Try.prog.godebug = none := by kernel_rfl
theorem laidOut : laidOutB Try.prog = true := by kernel_rfl

/-- A slice of integers that came in: nil, or a row of 'cap' cells. -/
def IsRow (k : IntKind) (w : World) (a : Option Addr) (len cap : Nat) (zs : List Int) : Prop :=
  (a = none ∧ len = 0 ∧ cap = 0 ∧ zs = []) ∨
  ∃ x, a = some x ∧ len ≤ cap ∧ cap ≤ maxLen ∧ zs.length = cap ∧ (∀ i, i < zs.length → w.cell? (x.add i) = some (.int k (zs.getD i 0))) ∧ ∀ n ∈ zs, (Lit.int k n).wf = true

set_option maxHeartbeats 2000000 in
theorem walk (a : Option Addr) (len cap : Nat) (zs : List Int) (w : World) (hr : IsRow .u8 w a len cap zs) :
    Calls Try.prog 3 #[.slice a len cap] w fun e w' => e = .returned (.bool true) ∧ Below w.heap.size w w' := by
  have hc := code_of hr
  clear hr
  have hl := hc.1
  unfold maxLen at hl
  have HC := hide hc
  clear hc
  by_cases h1 : (1048576 : Int) < (len : Int)
  · go_enter Try.func3, Try.ntmps3
    go_wp2_with fail
    go_ret
    exact ⟨rfl, Below.refl _ _⟩
  have h1' : len ≤ 1048576 := by omega
  clear hl
  go_enter Try.func3, Try.ntmps3
  go_wp2_with fail
  refine (drawArmor_any a len cap _ (unhide HC)).mono ?_
  rintro e w1 ⟨v, D, hD, rfl, ho1, hb1⟩
  obtain ⟨ad, cd, rfl, hs1, hcd, hcm⟩ := own_slc ho1
  have O1 := hide ho1
  have S1 := hide hs1
  have B1 := hide hb1
  clear ho1 hs1 hb1
  have HM := hide (And.intro hcd hcm)
  have hD2 : D.length ≤ maxLen := by unfold maxLen; omega
  have HL := hide hD2
  clear hcd hcm hD2
  go_wp2_with fail
  refine (iArmor_any ad D.length cd D _ (unhide HL) (unhide HM).1 (unhide HM).2 (unhide S1)).mono ?_
  rintro e w2 ⟨rfl, hb2⟩
  have S2 := hide (((unhide S1).keep hb2).mono hb2.size)
  have B2 := hide (bTr (unhide B1) hb2)
  have O2 := hide (own_keep (unhide O1) hb2)
  clear hb2 S1 B1 O1
  obtain ⟨T, hT⟩ : ∃ T, ByteArray.mk (armD D).toArray = T := ⟨_, rfl⟩
  have HT := hide hT
  rw [hT]
  clear hT
  go_wp2_with fail
  refine (sArmor_any ad D.length cd D _ (unhide HL) (unhide S2)).mono ?_
  rintro e w3 ⟨rfl, hb3⟩
  rw [unhide HT]
  have S3 := hide (((unhide S2).keep hb3).mono hb3.size)
  have B3 := hide (bTr (unhide B2) hb3)
  have O3 := hide (own_keep (unhide O2) hb3)
  clear hb3 S2 B2 O2
  by_cases hle : D.length ≤ 20000
  · have hTT : T = ByteArray.mk (arm D).toArray := by rw [← unhide HT, armD_of hle]
    have U0 := hide (show UnaRes T.data.toList D true by rw [hTT]; exact una_arm D hle)
    have hTs : T.size ≤ 1048576 := by rw [hTT]; exact arm_size D hle
    clear hTT
    go_wp2_with fail
    refine (iUnarmor_any T _ hTs).mono ?_
    rintro e w4 ⟨v4, D4, ok, rfl, hD4, hU4, ho4, hb4⟩
    obtain ⟨rfl, rfl⟩ := (unhide U0).one hU4
    have O4 := hide ho4
    have P4 := hide (own_keep (unhide O3) hb4)
    have B4 := hide (bTr (unhide B3) hb4)
    clear ho4 hb4 hU4 O3 B3 U0
    go_wp2_with fail
    refine (zBytes_any _ _ D D _ _ _ (unhide O4) (unhide P4)).mono ?_
    rintro e w5 ⟨rfl, hb5⟩
    rw [decide_eq_true rfl]
    have B5 := hide (bTr (unhide B4) hb5)
    clear hb5 B4 O4 P4
    go_wp2_with fail
    refine (drawUnarmor_any a len cap _ ((unhide HC).later (unhide B5))).mono ?_
    rintro e w6 ⟨⟨s, hs, rfl⟩, hb6⟩
    have B6 := hide (bTr (unhide B5) hb6)
    clear hb6 B5
    go_wp2_with fail
    refine (iUnarmor_any s _ (by omega)).mono ?_
    rintro e w7 ⟨v7, D7, ok7, rfl, hD7, hU7, ho7, hb7⟩
    have U7 := hide hU7
    have O7 := hide ho7
    have B7 := hide (bTr (unhide B6) hb7)
    clear hU7 ho7 hb7 B6
    go_wp2_with fail
    refine (sUnarmor_any s _ (by omega)).mono ?_
    rintro e w8 ⟨v8, D8, ok8, rfl, hD8, hU8, ho8, hb8⟩
    obtain ⟨rfl, rfl⟩ := (unhide U7).one hU8
    have O8 := hide ho8
    have P8 := hide (own_keep (unhide O7) hb8)
    have B8 := hide (bTr (unhide B7) hb8)
    clear hU8 ho8 hb8 B7 O7
    obtain ⟨a7, c7, rfl, hs7, hc7, hm7⟩ := own_slc (unhide P8)
    have S8 := hide hs7
    have M8 := hide (And.intro hc7 hm7)
    have L8 := hide (show D7.length ≤ maxLen by unfold maxLen; omega)
    clear hs7 hc7 hm7
    cases ok7
    · go_wp2_with fail
      refine (zBytes_any _ _ D7 D7 _ _ _ (unhide P8) (unhide O8)).mono ?_
      rintro e w9 ⟨rfl, hb9⟩
      rw [decide_eq_true rfl]
      have B9 := hide (bTr (unhide B8) hb9)
      clear hb9
      go_wp2_with fail
      go_ret
      exact ⟨rfl, unhide B9⟩
    · have hse := hide (una_str (unhide U7))
      go_wp2_with fail
      refine (zBytes_any _ _ D7 D7 _ _ _ (unhide P8) (unhide O8)).mono ?_
      rintro e w9 ⟨rfl, hb9⟩
      rw [decide_eq_true rfl]
      have B9 := hide (bTr (unhide B8) hb9)
      have S9 := hide (((unhide S8).keep hb9).mono hb9.size)
      clear hb9
      go_wp2_with fail
      refine (iArmor_any a7 D7.length c7 D7 _ (unhide L8) (unhide M8).1 (unhide M8).2 (unhide S9)).mono ?_
      rintro e wx ⟨rfl, hbx⟩
      rw [unhide hse]
      have BX := hide (bTr (unhide B9) hbx)
      clear hbx
      go_wp2_with fail
      go_ret
      exact ⟨rfl, unhide BX⟩
  · have B5 := B3
    clear B3 O3 S3
    go_wp2_with fail
    refine (drawUnarmor_any a len cap _ ((unhide HC).later (unhide B5))).mono ?_
    rintro e w6 ⟨⟨s, hs, rfl⟩, hb6⟩
    have B6 := hide (bTr (unhide B5) hb6)
    clear hb6 B5
    go_wp2_with fail
    refine (iUnarmor_any s _ (by omega)).mono ?_
    rintro e w7 ⟨v7, D7, ok7, rfl, hD7, hU7, ho7, hb7⟩
    have U7 := hide hU7
    have O7 := hide ho7
    have B7 := hide (bTr (unhide B6) hb7)
    clear hU7 ho7 hb7 B6
    go_wp2_with fail
    refine (sUnarmor_any s _ (by omega)).mono ?_
    rintro e w8 ⟨v8, D8, ok8, rfl, hD8, hU8, ho8, hb8⟩
    obtain ⟨rfl, rfl⟩ := (unhide U7).one hU8
    have O8 := hide ho8
    have P8 := hide (own_keep (unhide O7) hb8)
    have B8 := hide (bTr (unhide B7) hb8)
    clear hU8 ho8 hb8 B7 O7
    obtain ⟨a7, c7, rfl, hs7, hc7, hm7⟩ := own_slc (unhide P8)
    have S8 := hide hs7
    have M8 := hide (And.intro hc7 hm7)
    have L8 := hide (show D7.length ≤ maxLen by unfold maxLen; omega)
    clear hs7 hc7 hm7
    cases ok7
    · go_wp2_with fail
      refine (zBytes_any _ _ D7 D7 _ _ _ (unhide P8) (unhide O8)).mono ?_
      rintro e w9 ⟨rfl, hb9⟩
      rw [decide_eq_true rfl]
      have B9 := hide (bTr (unhide B8) hb9)
      clear hb9
      go_wp2_with fail
      go_ret
      exact ⟨rfl, unhide B9⟩
    · have hse := hide (una_str (unhide U7))
      go_wp2_with fail
      refine (zBytes_any _ _ D7 D7 _ _ _ (unhide P8) (unhide O8)).mono ?_
      rintro e w9 ⟨rfl, hb9⟩
      rw [decide_eq_true rfl]
      have B9 := hide (bTr (unhide B8) hb9)
      have S9 := hide (((unhide S8).keep hb9).mono hb9.size)
      clear hb9
      go_wp2_with fail
      refine (iArmor_any a7 D7.length c7 D7 _ (unhide L8) (unhide M8).1 (unhide M8).2 (unhide S9)).mono ?_
      rintro e wx ⟨rfl, hbx⟩
      rw [unhide hse]
      have BX := hide (bTr (unhide B9) hbx)
      clear hbx
      go_wp2_with fail
      go_ret
      exact ⟨rfl, unhide BX⟩

set_option maxRecDepth 100000 in
theorem lifted (os : Os) (started : os.Started) (H : Type) (enc : TypeId × Value → H) :
    ReturnsInHanded {} Try.checked os 3 .any (Rows.fnArmoredSpec.pre6 enc Try.prog Try.f3 Rows.fnArmoredRow.domain false) (Rows.fnArmoredSpec.post enc Try.prog Try.f3 false true false false) := by
  refine returnsInHanded_of_change (C := Try.checked) own started (by kernel_rfl) Try.func3
    (ChangeSpec.witness6 (enc := enc) (C := Try.checked) false ⟨#[], #[.slice none 0 0], []⟩ 8 (by kernel_rfl) (by kernel_rfl) (by kernel_rfl) (by kernel_rfl)) ?_
  intro W base args ds gs before hval0 hW hcnd _
  have hval : ∀ (j : Nat) t v, Try.f3.params[j]? = some t → args[j]? = some v → Value.okWide Try.prog W .any base t v := hval0
  have hW' := hW
  obtain ⟨p, q, hA0, hV, rfl, hfz, hnd⟩ := hW
  have hA : DataW.TrodAll enc Try.prog W 0 (fun _ => true) true Try.f3.params.toList args.toList ds p := hA0
  rw [Try.params3] at hA hval
  obtain ⟨v0, vs0, d0, ds0, p0, q0, hargs, rfl, rfl, h0, r0⟩ := trodAll_cons hA
  obtain ⟨rfl, rfl, rfl⟩ := trodAll_nil r0
  obtain rfl : args = #[v0] := by cases args; simp_all
  obtain ⟨rfl, rfl⟩ := trodVars_none hV
  obtain ⟨a0, len0, cap0, rfl⟩ := okWide_slice Try.underlying22 (hval 0 22 v0 rfl rfl)
  have k0 := h0
  have lt0 : ∀ x ∈ p0, x.block < W.heap.size := by obtain ⟨m, hm⟩ := k0; exact DataW.trod_lt m _ _ _ hm
  obtain ⟨z0, w0⟩ : ∃ zs, IsRow .u8 W a0 len0 cap0 zs := by
    obtain ⟨fuel, hf⟩ := h0
    rcases open_ints Try.underlying22 Try.underlying5 (by kernel_rfl) hf with ⟨hcs, _⟩ | ⟨x, l, c, zs, hcs, _, hl, hm, hz, _, hcell, hwz⟩
    · simp [Value.cells] at hcs
      obtain ⟨rfl, rfl, rfl⟩ := hcs
      exact ⟨[], .inl ⟨rfl, rfl, rfl, rfl⟩⟩
    · simp [Value.cells] at hcs
      obtain ⟨rfl, rfl, rfl⟩ := hcs
      exact ⟨zs, .inr ⟨_, rfl, hl, hm, by simpa using hz, hcell, hwz⟩⟩
  clear hA0 hval0
  refine (walk a0 len0 cap0 z0 W w0).mono fun e W' ⟨he, bel⟩ => ?_
  subst he
  exact ⟨_, rfl, _, _, _, [], _, [], hW', trodAll_mk1 (shut_bool Try.underlying4 _), (trodAll_cons_mk (Below.trod laidOut (by kernel_rfl) (of_decide_eq_true (by kernel_rfl)) k0 bel lt0) trodAll_mk0), rfl, bel.frame _, fun h => by cases h⟩

theorem over : Rows.fnArmoredRow.holds Try.pinned (OpenSpec.ofChange Rows.fnArmoredSpec) :=
  OpenClaim.holds_of_wide 3 Try.f3 rfl rfl rfl rfl rfl rfl rfl ⟨rfl, rfl, rfl, rfl, rfl⟩ rfl rfl rfl rfl rfl (by kernel_rfl) Try.func3 (by kernel_rfl)
    (of_decide_eq_true (by kernel_rfl)) (by unfold Func.isWrapper; rw [if_neg (by decide +kernel)]; exact ⟨rfl, rfl⟩)
    (fun os started H enc _ => lifted os started H enc)
end Go.Proofs.Ytcgodelkanifbaa.fnArmored
namespace Go.Proofs.Ytcgodelkanifbaa
theorem fnArmored_holds : Rows.FnArmoredSaid := fnArmored.over
end Go.Proofs.Ytcgodelkanifbaa
