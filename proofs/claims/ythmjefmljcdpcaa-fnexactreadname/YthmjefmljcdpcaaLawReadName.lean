/- The row of laws.FnExactReadName: its walk, then the row's step. -/
import Derived.Test.YthmjefmljcdpcaaRows
import Derived.Test.YthmjefmljcdpcaaQMrO
import Derived.WalkKit
import Derived.ProofKit
import Derived.OpenShut
import Derived.ShutString
import Derived.ChangeOld
import Derived.Below
import Derived.Lib.SmallJoins
namespace Go.Proofs.Ythmjefmljcdpcaa.fnExactReadName
open Go.ChangeShapes Go.WideShapes Go.ChangeAt Go.RowKit Go.Joins
open Go.ChangeMaps (open_string shut_string)
set_option linter.unusedVariables false

theorem own : ownKnob Try.prog.godebug = none := by kernel_rfl
theorem laidOut : laidOutB Try.prog = true := by kernel_rfl

set_option maxHeartbeats 2000000 in
theorem walk (s : ByteArray) (w : World) (w0 : s.size ≤ maxLen) :
    Calls Try.prog 5 #[.string s] w fun e w' => e = .returned (.bool true) ∧ Below w.heap.size w w' := by
  have hm := w0
  unfold maxLen at hm
  by_cases h : (1048576 : Int) < (s.size : Int)
  · go_enter Try.func5, Try.ntmps5
    go_wp2_with fail
    go_ret
    exact ⟨rfl, Below.refl _ _⟩
  have hs : s.size ≤ 1048576 := by omega
  have qs := hide (fun w => sReadName_any s w hs)
  have qi := hide (fun w => iReadName_any s w hs)
  clear hs w0
  go_enter Try.func5, Try.ntmps5
  go_wp2_with fail
  refine (unhide qs _).mono ?_
  rintro e w1 ⟨⟨l, ok, v1, rfl, r1, o1⟩, hb1⟩
  have R1 := hide r1
  have O1 := hide o1
  have B1 := hide hb1
  have hl := hide r1.short
  have z1 := hide hb1.size
  clear r1 o1 hb1 qs
  go_wp2_with fail
  refine (unhide qi _).mono ?_
  rintro e w2 ⟨⟨l', ok', v2, rfl, r2, o2⟩, hb2⟩
  obtain ⟨rfl, rfl⟩ := r2.one (unhide R1)
  have lt1 := hide (fun g hg => ((unhide O1).lt g hg).2)
  have O2 := hide o2
  replace O1 := hide (own_keepT (unhide O1) hb2)
  have B2 := hide (bTr (unhide B1) hb2)
  have z2 := hide hb2.size
  clear r2 o2 hb2 B1
  have hee : (ok' != ok') = false := by simp
  go_wp2_with fail
  refine (eqOwn (unhide O2) (unhide O1) (unhide hl)).mono ?_
  rintro e w3 ⟨rfl, hb3⟩
  replace O1 := hide (own_keepT (unhide O1) hb3)
  replace O2 := hide (own_keepT (unhide O2) hb3)
  have B3 := hide (bTr (unhide B2) hb3)
  have z3 := hide (Nat.le_trans (unhide z2) hb3.size)
  clear hb3 B2 z2
  have qm := hide (markP_own v2 l' _ _ (unhide hl) (unhide z3) (unhide O2))
  have qh := hide (fun w h => heldP_own v2 l'.length w (unhide hl) h)
  generalize 1 + l'.length * 2 = T at qm qh
  go_wp2_with fail
  refine (unhide qm).mono ?_
  rintro e w4 ⟨rfl, hM, hb4⟩
  have M4 := hide hM
  replace O1 := hide (own_keepB (unhide O1) hb4 (unhide lt1))
  have B4 := hide ((unhide B3).trans (Below.mono hb4 (unhide z1)))
  clear hb4 hM O2 B3 z3 qm
  go_wp2_with fail
  refine (unhide qh _ (unhide M4)).mono ?_
  rintro e w5 ⟨rfl, hb5⟩
  replace O1 := hide (own_keepT (unhide O1) hb5)
  replace M4 := hide ((unhide M4).keep hb5)
  have B5 := hide (bTr (unhide B4) hb5)
  clear hb5 B4
  have t0 : ¬ (T : Int) < 0 := by omega
  have t1 : ((T : Int) != (T : Int)) = false := by simp
  go_wp2_with fail
  refine (unhide qi _).mono ?_
  rintro e w6 ⟨⟨l2, ok2, v3, rfl, r3, o3⟩, hb6⟩
  obtain ⟨rfl, rfl⟩ := r3.one (unhide R1)
  have O3 := hide o3
  replace O1 := hide (own_keepT (unhide O1) hb6)
  replace M4 := hide ((unhide M4).keep hb6)
  have B6 := hide (bTr (unhide B5) hb6)
  clear r3 o3 hb6 B5
  have hee2 : (ok2 != ok2) = false := by simp
  go_wp2_with fail
  refine (eqOwn (unhide O3) (unhide O1) (unhide hl)).mono ?_
  rintro e w7 ⟨rfl, hb7⟩
  replace M4 := hide ((unhide M4).keep hb7)
  have B7 := hide (bTr (unhide B6) hb7)
  clear hb7 B6
  go_wp2_with fail
  refine (unhide qh _ (unhide M4)).mono ?_
  rintro e w8 ⟨rfl, hb8⟩
  have B8 := hide (bTr (unhide B7) hb8)
  clear hb8 B7
  go_wp2_with fail
  go_ret
  exact ⟨rfl, unhide B8⟩

set_option maxRecDepth 100000 in
theorem lifted (os : Os) (started : os.Started) (H : Type) (enc : TypeId × Value → H) :
    ReturnsInHanded {} Try.checked os 5 .any (Rows.fnExactReadNameSpec.pre6 enc Try.prog Try.f5 Rows.fnExactReadNameRow.domain false) (Rows.fnExactReadNameSpec.post enc Try.prog Try.f5 false true false false) := by
  refine returnsInHanded_of_change (C := Try.checked) own started (by kernel_rfl) Try.func5
    (ChangeSpec.witness6 (enc := enc) (C := Try.checked) false ⟨#[], #[.string ByteArray.empty], []⟩ 8 (by kernel_rfl) (by kernel_rfl) (by kernel_rfl) (by kernel_rfl)) ?_
  intro W base args ds gs before hval0 hW hcnd _
  have hval : ∀ (j : Nat) t v, Try.f5.params[j]? = some t → args[j]? = some v → Value.okWide Try.prog W .any base t v := hval0
  have hW' := hW
  obtain ⟨p, q, hA0, hV, rfl, hfz, hnd⟩ := hW
  have hA : DataW.TrodAll enc Try.prog W 0 (fun _ => true) true Try.f5.params.toList args.toList ds p := hA0
  rw [Try.params5] at hA hval
  obtain ⟨v0, vs0, d0, ds0, p0, q0, hargs, rfl, rfl, h0, r0⟩ := trodAll_cons hA
  obtain ⟨rfl, rfl, rfl⟩ := trodAll_nil r0
  obtain rfl : args = #[v0] := by cases args; simp_all
  obtain ⟨rfl, rfl⟩ := trodVars_none hV
  obtain ⟨a0, rfl, rfl, rfl, w0⟩ := open_string Try.underlying9 (hval 0 9 v0 rfl rfl) h0
  clear hA0 hval0
  refine (walk a0 W w0).mono fun e W' ⟨he, bel⟩ => ?_
  subst he
  exact ⟨_, rfl, _, _, _, [], _, [], hW', trodAll_mk1 (shut_bool Try.underlying4 _), (trodAll_cons_mk (shut_string Try.underlying9 w0) trodAll_mk0), rfl, bel.frame _, fun h => by cases h⟩

theorem over : Rows.fnExactReadNameRow.holds Try.pinned (OpenSpec.ofChange Rows.fnExactReadNameSpec) :=
  OpenClaim.holds_of_wide 5 Try.f5 rfl rfl rfl rfl rfl rfl rfl ⟨rfl, rfl, rfl, rfl, rfl⟩ rfl rfl rfl rfl rfl (by kernel_rfl) Try.func5 (by kernel_rfl)
    (of_decide_eq_true (by kernel_rfl)) (by unfold Func.isWrapper; rw [if_neg (by decide +kernel)]; exact ⟨rfl, rfl⟩)
    (fun os started H enc _ => lifted os started H enc)
end Go.Proofs.Ythmjefmljcdpcaa.fnExactReadName
namespace Go.Proofs.Ythmjefmljcdpcaa
theorem fnExactReadName_holds : Rows.FnExactReadNameSaid := fnExactReadName.over
end Go.Proofs.Ythmjefmljcdpcaa
