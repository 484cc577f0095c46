/- The row of laws.FnExactJoin: its walk, then the row's step. -/
import Derived.Test.YtcgodelkanifbaaRows
import Derived.Test.YtcgodelkanifbaaJoiT
import Derived.WalkKit
import Derived.ProofKit
import Derived.OpenShut
import Derived.ShutString
import Derived.ChangeOld
import Derived.Below
import Derived.Lib.SmallJoins
namespace Go.Proofs.Ytcgodelkanifbaa.fnExactJoin
open Go.ChangeShapes Go.WideShapes Go.ChangeAt Go.RowKit Go.Joins
open Go.ChangeMaps (open_string shut_string)
set_option linter.unusedVariables false

theorem own : ownKnob Try.prog.godebug = none := by kernel_rfl
theorem laidOut : laidOutB Try.prog = true := by kernel_rfl

set_option maxHeartbeats 1000000 in
theorem walk (l : List (Int × Int)) (a : Option Addr) (len cap : Nat) (w : World) (hs : SlH w a len l) (hl : len ≤ maxLen) :
    Calls Try.prog 7 #[.slice a len cap] w fun e w' => e = .returned (.bool true) ∧ Below w.heap.size w w' := by
  have qz := hide (fun w => szShare_any a len cap w hl)
  have HS := hide hs
  have HL := hide hl
  have hll := hide hs.1
  clear hs hl
  by_cases g1 : len ≤ 1048576
  · rw [if_pos g1] at qz
    go_enter Try.func7, Try.ntmps7
    go_wp2_with fail
    refine (unhide qz _).mono ?_
    rintro e w1 ⟨rfl, rfl⟩
    have hm : ¬ (1048576 : Int) - (len : Int) < 0 := by omega
    clear qz
    go_wp2_with fail
    refine (toShareS_any a len cap l _ g1 (unhide HS)).mono ?_
    rintro e w2 ⟨rfl, r2, hb2⟩
    have R2 := hide r2
    have B2 := hide hb2
    clear hb2 r2
    go_wp2_with fail
    refine (sJoin_any _ 0 len l _ (unhide hll) g1 (unhide R2)).mono ?_
    rintro e w3 ⟨⟨r, ok, rfl, hj⟩, hb3⟩
    have J3 := hide hj
    have B3 := hide (bTr (unhide B2) hb3)
    clear hb3 R2 B2 hj
    go_wp2_with fail
    refine (toShareS_any a len cap l _ g1 ((unhide HS).keep (unhide B3))).mono ?_
    rintro e w4 ⟨rfl, r4, hb4⟩
    have R4 := hide r4
    have B4 := hide (bTr (unhide B3) hb4)
    clear hb4 r4 B3
    go_wp2_with fail
    refine (iJoin_any _ 0 len l _ (unhide hll) g1 (unhide R4)).mono ?_
    rintro e w5 ⟨⟨r', ok', rfl, hj⟩, hb5⟩
    obtain ⟨rfl, rfl⟩ := (unhide J3).one hj
    have B5 := hide (bTr (unhide B4) hb5)
    have R5 := hide ((unhide R4).keep hb5)
    clear hb5 R4 B4 hj J3
    have he : (r != r) = false := by simp
    have he2 : (ok != ok) = false := by simp
    go_wp2_with fail
    refine (toShareS_any a len cap l _ g1 ((unhide HS).keep (unhide B5))).mono ?_
    rintro e w6 ⟨rfl, r6, hb6⟩
    have R6 := hide r6
    have B6 := hide (bTr (unhide B5) hb6)
    have R7 := hide ((unhide R5).keep hb6)
    clear hb6 r6 B5 R5
    go_wp2_with fail
    refine (eqShareS_same _ _ len len len len l _ ⟨unhide hll, .inr ⟨_, 0, rfl, unhide R7⟩⟩ ⟨unhide hll, .inr ⟨_, 0, rfl, unhide R6⟩⟩ (unhide HL)).mono ?_
    rintro e w7 ⟨rfl, hb7⟩
    have B7 := hide (bTr (unhide B6) hb7)
    clear hb7
    go_wp2_with fail
    go_ret
    exact ⟨rfl, unhide B7⟩
  · rw [if_neg g1] at qz
    go_enter Try.func7, Try.ntmps7
    go_wp2_with fail
    refine (unhide qz _).mono ?_
    rintro e w1 ⟨rfl, rfl⟩
    go_wp2_with fail
    go_ret
    exact ⟨rfl, Below.refl _ _⟩

set_option maxRecDepth 100000 in
theorem lifted (os : Os) (started : os.Started) (H : Type) (enc : TypeId × Value → H) :
    ReturnsInHanded {} Try.checked os 7 .any (Rows.fnExactJoinSpec.pre6 enc Try.prog Try.f7 Rows.fnExactJoinRow.domain false) (Rows.fnExactJoinSpec.post enc Try.prog Try.f7 false true false false) := by
  refine returnsInHanded_of_change (C := Try.checked) own started (by kernel_rfl) Try.func7
    (ChangeSpec.witness6 (enc := enc) (C := Try.checked) false ⟨#[], #[.slice none 0 0], []⟩ 8 (by kernel_rfl) (by kernel_rfl) (by kernel_rfl) (by kernel_rfl)) ?_
  intro W base args ds gs before hval0 hW hcnd _
  have hval : ∀ (j : Nat) t v, Try.f7.params[j]? = some t → args[j]? = some v → Value.okWide Try.prog W .any base t v := hval0
  have hW' := hW
  obtain ⟨p, q, hA0, hV, rfl, hfz, hnd⟩ := hW
  have hA : DataW.TrodAll enc Try.prog W 0 (fun _ => true) true Try.f7.params.toList args.toList ds p := hA0
  rw [Try.params7] at hA hval
  obtain ⟨v0, vs0, d0, ds0, p0, q0, hargs, rfl, rfl, h0, r0⟩ := trodAll_cons hA
  obtain ⟨rfl, rfl, rfl⟩ := trodAll_nil r0
  obtain rfl : args = #[v0] := by cases args; simp_all
  obtain ⟨rfl, rfl⟩ := trodVars_none hV
  have k0 := h0
  have lt0 : ∀ x ∈ p0, x.block < W.heap.size := by obtain ⟨m, hm⟩ := k0; exact DataW.trod_lt m _ _ _ hm
  obtain ⟨l0, a0, len0, cap0, e0, s0, _, m0⟩ := read_list (hval 0 33 v0 rfl rfl) h0
  subst e0
  clear hA0 hval0
  refine (walk l0 a0 len0 cap0 W s0 m0).mono fun e W' ⟨he, bel⟩ => ?_
  subst he
  exact ⟨_, rfl, _, _, _, [], _, [], hW', trodAll_mk1 (shut_bool Try.underlying4 _), (trodAll_cons_mk (Below.trod laidOut (by kernel_rfl) (of_decide_eq_true (by kernel_rfl)) k0 bel lt0) trodAll_mk0), rfl, bel.frame _, fun h => by cases h⟩

theorem over : Rows.fnExactJoinRow.holds Try.pinned (OpenSpec.ofChange Rows.fnExactJoinSpec) :=
  OpenClaim.holds_of_wide 7 Try.f7 rfl rfl rfl rfl rfl rfl rfl ⟨rfl, rfl, rfl, rfl, rfl⟩ rfl rfl rfl rfl rfl (by kernel_rfl) Try.func7 (by kernel_rfl)
    (of_decide_eq_true (by kernel_rfl)) (by unfold Func.isWrapper; rw [if_neg (by decide +kernel)]; exact ⟨rfl, rfl⟩)
    (fun os started H enc _ => lifted os started H enc)
end Go.Proofs.Ytcgodelkanifbaa.fnExactJoin
namespace Go.Proofs.Ytcgodelkanifbaa
theorem fnExactJoin_holds : Rows.FnExactJoinSaid := fnExactJoin.over
end Go.Proofs.Ytcgodelkanifbaa
