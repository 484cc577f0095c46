/- The row of laws.FnExactCompareAtoms: its walk, then the row's step. -/
import Derived.Test.YthbakjnojjkmmaaRows
import Derived.Test.YthbakjnojjkmmaaCmpA
import Derived.WalkKit
import Derived.ProofKit
import Derived.OpenShut
import Derived.ShutString
import Derived.ChangeOld
import Derived.Below
import Derived.Lib.SmallJoins
namespace Go.Proofs.Ythbakjnojjkmmaa.fnExactCompareAtoms
open Go.ChangeShapes Go.WideShapes Go.ChangeAt Go.RowKit Go.Joins
open Go.ChangeMaps (open_string shut_string)
set_option linter.unusedVariables false

theorem own : ownKnob Try.prog.godebug = none := by kernel_rfl
theorem laidOut : laidOutB Try.prog = true := by kernel_rfl

set_option maxHeartbeats 1000000 in
theorem walk (x n : Int) (t y : ByteArray) (x' n' : Int) (t' y' : ByteArray) (w : World) (b : (Lit.int .i64 n).wf = true) (ht : t.size ≤ maxLen) (hy : y.size ≤ maxLen)
    (b' : (Lit.int .i64 n').wf = true) (ht' : t'.size ≤ maxLen) (hy' : y'.size ≤ maxLen) :
    Calls Try.prog 7 #[.agg #[.int .i64 x, .int .i64 n, .string t, .string y], .agg #[.int .i64 x', .int .i64 n', .string t', .string y']] w fun e w' => e = .returned (.bool true) ∧ Below w.heap.size w w' := by
  have h9 : n ≤ 9223372036854775807 := by
    have := b; simp [Lit.wf, IntKind.min, IntKind.max, IntKind.signed, IntKind.bits] at this; omega
  have h9' : n' ≤ 9223372036854775807 := by
    have := b'; simp [Lit.wf, IntKind.min, IntKind.max, IntKind.signed, IntKind.bits] at this; omega
  clear b b'
  have hs := hide (fun w => sCompare_any x n t y x' n' t' y' w h9 ht hy h9' ht' hy')
  have hi := hide (fun w => iCompare_any x n t y x' n' t' y' w h9 ht hy h9' ht' hy')
  have s1 := hide (fun l w h0 h1 => szAtom_any x n l t y w h0 h1 ht hy)
  have s2 := hide (fun l w h0 h1 => szAtom_any x' n' l t' y' w h0 h1 ht' hy')
  clear h9 h9' ht hy ht' hy'
  go_enter Try.func7, Try.ntmps7
  go_wp2_with fail
  refine (unhide s1 _ _ (by omega) (by omega)).mono ?_
  rintro e w1 ⟨⟨m, hm1, hm2, rfl⟩, hb1⟩
  have qa := ((AtomAt.new w _ _ _ _ _).more _).keep hb1
  have qb := (AtomAt.new1 w _ _ _ _ _ _).keep hb1
  have bw := bTr (bAl (bAl (Below.refl _ _) _) _) hb1
  clear hb1
  by_cases hm : m < 0
  · go_wp2_with fail
    go_ret
    exact ⟨rfl, bw⟩
  obtain ⟨d0, d1, d2, d3, _⟩ := hide qb
  go_wp2_with fail
  refine (unhide s2 _ _ (by omega) (by omega)).mono ?_
  rintro e w2 ⟨⟨m2, hm3, hm4, rfl⟩, hb2⟩
  clear d0 d1 d2 d3
  replace qa := qa.keep hb2
  replace qb := qb.keep hb2
  replace bw := bTr bw hb2
  clear hb2
  by_cases hn : m2 < 0
  · go_wp2_with fail
    go_ret
    exact ⟨rfl, bw⟩
  have ne : Nonempty (Kept w2) := ⟨⟨w2, Below.refl _ _⟩⟩
  have c0 := fun k : Kept w2 => (qa.kept k).c0
  have c1 := fun k : Kept w2 => (qa.kept k).c1
  have c2 := fun k : Kept w2 => (qa.kept k).c2
  have c3 := fun k : Kept w2 => (qa.kept k).c3
  have d0 := fun k : Kept w2 => (qb.kept k).c0
  have d1 := fun k : Kept w2 => (qb.kept k).c1
  have d2 := fun k : Kept w2 => (qb.kept k).c2
  have d3 := fun k : Kept w2 => (qb.kept k).c3
  go_wp2_with fail
  refine wp_region_kept (by kernel_rfl) (by kernel_rfl) ?_
  repeat (first
    | go_big_quiet_step (first | (go_at_call 22; exact kept_call (toAtom_any _ _ _ _ _)) | (go_at_call 24; exact kept_call (unhide hs _)))
    | quiet_step (first | (go_at_call 22; exact kept_call (toAtom_any _ _ _ _ _)) | (go_at_call 24; exact kept_call (unhide hs _))))
  refine wpQuiet_nil ?_
  rintro _ ⟨k, rfl⟩
  clear ne c0 c1 c2 c3 d0 d1 d2 d3
  obtain ⟨w3, hb3⟩ := k
  replace qa := qa.keep hb3
  replace qb := qb.keep hb3
  replace bw := bTr bw hb3
  have ne : Nonempty (Kept w3) := ⟨⟨w3, Below.refl _ _⟩⟩
  have c0 := fun k : Kept w3 => (qa.kept k).c0
  have c1 := fun k : Kept w3 => (qa.kept k).c1
  have c2 := fun k : Kept w3 => (qa.kept k).c2
  have c3 := fun k : Kept w3 => (qa.kept k).c3
  have d0 := fun k : Kept w3 => (qb.kept k).c0
  have d1 := fun k : Kept w3 => (qb.kept k).c1
  have d2 := fun k : Kept w3 => (qb.kept k).c2
  have d3 := fun k : Kept w3 => (qb.kept k).c3
  go_wp2_with fail
  refine wp_region_kept (by kernel_rfl) (by kernel_rfl) ?_
  repeat (first
    | go_big_quiet_step (first | (go_at_call 22; exact kept_call (toAtom_any _ _ _ _ _)) | (go_at_call 25; exact kept_call (unhide hi _)))
    | quiet_step (first | (go_at_call 22; exact kept_call (toAtom_any _ _ _ _ _)) | (go_at_call 25; exact kept_call (unhide hi _))))
  refine wpQuiet_nil ?_
  rintro _ ⟨k, rfl⟩
  clear ne c0 c1 c2 c3 d0 d1 d2 d3
  obtain ⟨w4, hb4⟩ := k
  replace bw := bTr bw hb4
  clear hs hi
  generalize cmpG x n t y x' n' t' y' = c
  go_wp2_with fail
  go_ret
  exact ⟨rfl, bw⟩

set_option maxRecDepth 100000 in
theorem lifted (os : Os) (started : os.Started) (H : Type) (enc : TypeId × Value → H) :
    ReturnsInHanded {} Try.checked os 7 .any (Rows.fnExactCompareAtomsSpec.pre6 enc Try.prog Try.f7 Rows.fnExactCompareAtomsRow.domain false) (Rows.fnExactCompareAtomsSpec.post enc Try.prog Try.f7 false true false false) := by
  refine returnsInHanded_of_change (C := Try.checked) own started (by kernel_rfl) Try.func7
    (ChangeSpec.witness6 (enc := enc) (C := Try.checked) false ⟨#[], #[.agg #[.int .i64 0, .int .i64 0, .string ByteArray.empty, .string ByteArray.empty], .agg #[.int .i64 0, .int .i64 0, .string ByteArray.empty, .string ByteArray.empty]], []⟩ 8 (by kernel_rfl) (by kernel_rfl) (by kernel_rfl) (by kernel_rfl)) ?_
  intro W base args ds gs before hval0 hW hcnd _
  have hval : ∀ (j : Nat) t v, Try.f7.params[j]? = some t → args[j]? = some v → Value.okWide Try.prog W .any base t v := hval0
  have hW' := hW
  obtain ⟨p, q, hA0, hV, rfl, hfz, hnd⟩ := hW
  have hA : DataW.TrodAll enc Try.prog W 0 (fun _ => true) true Try.f7.params.toList args.toList ds p := hA0
  rw [Try.params7] at hA hval
  obtain ⟨v0, vs0, d0, ds0, p0, q0, hargs, rfl, rfl, h0, r0⟩ := trodAll_cons hA
  obtain ⟨v1, vs1, d1, ds1, p1, q1, rfl, rfl, rfl, h1, r1⟩ := trodAll_cons r0
  obtain ⟨rfl, rfl, rfl⟩ := trodAll_nil r1
  obtain rfl : args = #[v0, v1] := by cases args; simp_all
  obtain ⟨rfl, rfl⟩ := trodVars_none hV
  have k0 := h0
  have lt0 : ∀ x ∈ p0, x.block < W.heap.size := by obtain ⟨m, hm⟩ := k0; exact DataW.trod_lt m _ _ _ hm
  obtain ⟨x0, n0, t0, y0, e0, b0, c0, f0⟩ : ∃ (x n : Int) (t y : ByteArray), v0 = .agg #[.int .i64 x, .int .i64 n, .string t, .string y] ∧ (Lit.int .i64 n).wf = true ∧ t.size ≤ maxLen ∧ y.size ≤ maxLen := by
    obtain ⟨c0, c1, c2, c3, y0, y1, y2, y3, m, rfl, _, _, g0, g1, g2, g3⟩ := open_agg4 Try.underlying36 (by kernel_rfl) (by kernel_rfl) (hval 0 36 v0 rfl rfl) h0
    obtain ⟨a, q0, _, _⟩ := DataW.trod_int Try.underlying3 g0
    obtain ⟨b, q1, _, wb⟩ := DataW.trod_int Try.underlying3 g1
    obtain ⟨s, q2, _, ws⟩ := DataW.trod_string Try.underlying9 g2
    obtain ⟨r, q3, _, wr⟩ := DataW.trod_string Try.underlying9 g3
    simp at q0 q1 q2 q3
    subst q0 q1 q2 q3
    exact ⟨a, b, s, r, rfl, wb, ws, wr⟩
  subst e0
  have k1 := h1
  have lt1 : ∀ x ∈ p1, x.block < W.heap.size := by obtain ⟨m, hm⟩ := k1; exact DataW.trod_lt m _ _ _ hm
  obtain ⟨x1, n1, t1, y1, e1, b1, c1, f1⟩ : ∃ (x n : Int) (t y : ByteArray), v1 = .agg #[.int .i64 x, .int .i64 n, .string t, .string y] ∧ (Lit.int .i64 n).wf = true ∧ t.size ≤ maxLen ∧ y.size ≤ maxLen := by
    obtain ⟨c0, c1, c2, c3, y0, y1, y2, y3, m, rfl, _, _, g0, g1, g2, g3⟩ := open_agg4 Try.underlying36 (by kernel_rfl) (by kernel_rfl) (hval 1 36 v1 rfl rfl) h1
    obtain ⟨a, q0, _, _⟩ := DataW.trod_int Try.underlying3 g0
    obtain ⟨b, q1, _, wb⟩ := DataW.trod_int Try.underlying3 g1
    obtain ⟨s, q2, _, ws⟩ := DataW.trod_string Try.underlying9 g2
    obtain ⟨r, q3, _, wr⟩ := DataW.trod_string Try.underlying9 g3
    simp at q0 q1 q2 q3
    subst q0 q1 q2 q3
    exact ⟨a, b, s, r, rfl, wb, ws, wr⟩
  subst e1
  clear hA0 hval0
  refine (walk x0 n0 t0 y0 x1 n1 t1 y1 W b0 c0 f0 b1 c1 f1).mono fun e W' ⟨he, bel⟩ => ?_
  subst he
  exact ⟨_, rfl, _, _, _, [], _, [], hW', trodAll_mk1 (shut_bool Try.underlying4 _), (trodAll_cons_mk (Below.trod laidOut (by kernel_rfl) (of_decide_eq_true (by kernel_rfl)) k0 bel lt0) (trodAll_cons_mk (Below.trod laidOut (by kernel_rfl) (of_decide_eq_true (by kernel_rfl)) k1 bel lt1) trodAll_mk0)), rfl, bel.frame _, fun h => by cases h⟩

theorem over : Rows.fnExactCompareAtomsRow.holds Try.pinned (OpenSpec.ofChange Rows.fnExactCompareAtomsSpec) :=
  OpenClaim.holds_of_wide 7 Try.f7 rfl rfl rfl rfl rfl rfl rfl ⟨rfl, rfl, rfl, rfl, rfl⟩ rfl rfl rfl rfl rfl (by kernel_rfl) Try.func7 (by kernel_rfl)
    (of_decide_eq_true (by kernel_rfl)) (by unfold Func.isWrapper; rw [if_neg (by decide +kernel)]; exact ⟨rfl, rfl⟩)
    (fun os started H enc _ => lifted os started H enc)
end Go.Proofs.Ythbakjnojjkmmaa.fnExactCompareAtoms
namespace Go.Proofs.Ythbakjnojjkmmaa
theorem fnExactCompareAtoms_holds : Rows.FnExactCompareAtomsSaid := fnExactCompareAtoms.over
end Go.Proofs.Ythbakjnojjkmmaa
