/- The row of laws.FnExactGoodAtom: its walk, then the row's step. -/
import Derived.Test.YthbakjnojjkmmaaRows
import Derived.Test.YthbakjnojjkmmaaAtom
import Derived.WalkKit
import Derived.ProofKit
import Derived.OpenShut
import Derived.ShutString
import Derived.ChangeOld
import Derived.Below
import Derived.Lib.SmallJoins
namespace Go.Proofs.Ythbakjnojjkmmaa.fnExactGoodAtom
open Go.ChangeShapes Go.WideShapes Go.ChangeAt Go.RowKit Go.Joins
open Go.ChangeMaps (open_string shut_string)
set_option linter.unusedVariables false

theorem own : ownKnob Try.prog.godebug = none := by kernel_rfl
theorem laidOut : laidOutB Try.prog = true := by kernel_rfl

theorem walk (x n : Int) (t y : ByteArray) (w : World) (b : (Lit.int .i64 n).wf = true) (ht : t.size ≤ maxLen) (hy : y.size ≤ maxLen) :
    Calls Try.prog 6 #[.agg #[.int .i64 x, .int .i64 n, .string t, .string y]] w fun e w' => e = .returned (.bool true) ∧ Below w.heap.size w w' := by
  have h9 : n ≤ 9223372036854775807 := by
    have := b; simp [Lit.wf, IntKind.min, IntKind.max, IntKind.signed, IntKind.bits] at this; omega
  clear b
  have hs := hide (fun w => sGoodAtom_any x n t y w h9 ht hy)
  have hi := hide (fun w => iGoodAtom_any x n t y w h9 ht hy)
  go_enter Try.func6, Try.ntmps6
  go_wp2_with fail
  refine (szAtom_any x n _ t y _ (by omega) (by omega) ht hy).mono ?_
  rintro e w1 ⟨⟨m, hm1, hm2, rfl⟩, hb1⟩
  have c0 : w1.cell? ⟨w.heap.size, 0, none⟩ = some (.int .i64 x) := cell_keep hb1 0
  have c1 : w1.cell? ⟨w.heap.size, 1, none⟩ = some (.int .i64 n) := cell_keep hb1 1
  have c2 : w1.cell? ⟨w.heap.size, 2, none⟩ = some (.string t) := cell_keep hb1 2
  have c3 : w1.cell? ⟨w.heap.size, 3, none⟩ = some (.string y) := cell_keep hb1 3
  have z1 : w.heap.size < w1.heap.size := by have := hb1.size; simp at this; omega
  by_cases hm : m < 0
  · go_wp2_with fail
    go_ret
    exact ⟨rfl, bTr (bAl (Below.refl _ _) _) hb1⟩
  go_wp2_with fail
  refine (toAtom_any x n t y _).mono ?_
  rintro e w2 ⟨rfl, hb2⟩
  have c0' : w2.cell? ⟨w.heap.size, 0, none⟩ = some (.int .i64 x) := by rw [hb2.cell z1]; exact c0
  have c1' : w2.cell? ⟨w.heap.size, 1, none⟩ = some (.int .i64 n) := by rw [hb2.cell z1]; exact c1
  have c2' : w2.cell? ⟨w.heap.size, 2, none⟩ = some (.string t) := by rw [hb2.cell z1]; exact c2
  have c3' : w2.cell? ⟨w.heap.size, 3, none⟩ = some (.string y) := by rw [hb2.cell z1]; exact c3
  have z2 : w.heap.size < w2.heap.size := Nat.lt_of_lt_of_le z1 hb2.size
  clear c0 c1 c2 c3
  go_wp2_with fail
  refine (unhide hs _).mono ?_
  rintro e w3 ⟨rfl, hb3⟩
  have c0 : w3.cell? ⟨w.heap.size, 0, none⟩ = some (.int .i64 x) := by rw [hb3.cell z2]; exact c0'
  have c1 : w3.cell? ⟨w.heap.size, 1, none⟩ = some (.int .i64 n) := by rw [hb3.cell z2]; exact c1'
  have c2 : w3.cell? ⟨w.heap.size, 2, none⟩ = some (.string t) := by rw [hb3.cell z2]; exact c2'
  have c3 : w3.cell? ⟨w.heap.size, 3, none⟩ = some (.string y) := by rw [hb3.cell z2]; exact c3'
  clear c0' c1' c2' c3'
  go_wp2_with fail
  refine (toAtom_any x n t y _).mono ?_
  rintro e w4 ⟨rfl, hb4⟩
  go_wp2_with fail
  refine (unhide hi _).mono ?_
  rintro e w5 ⟨rfl, hb5⟩
  cases goodAtom x n t y
  all_goals
    go_wp2_with fail
    go_ret
    exact ⟨rfl, bTr (bTr (bTr (bTr (bTr (bAl (Below.refl _ _) _) hb1) hb2) hb3) hb4) hb5⟩

set_option maxRecDepth 100000 in
theorem lifted (os : Os) (started : os.Started) (H : Type) (enc : TypeId × Value → H) :
    ReturnsInHanded {} Try.checked os 6 .any (Rows.fnExactGoodAtomSpec.pre6 enc Try.prog Try.f6 Rows.fnExactGoodAtomRow.domain false) (Rows.fnExactGoodAtomSpec.post enc Try.prog Try.f6 false true false false) := by
  refine returnsInHanded_of_change (C := Try.checked) own started (by kernel_rfl) Try.func6
    (ChangeSpec.witness6 (enc := enc) (C := Try.checked) false ⟨#[], #[.agg #[.int .i64 0, .int .i64 0, .string ByteArray.empty, .string ByteArray.empty]], []⟩ 8 (by kernel_rfl) (by kernel_rfl) (by kernel_rfl) (by kernel_rfl)) ?_
  intro W base args ds gs before hval0 hW hcnd _
  have hval : ∀ (j : Nat) t v, Try.f6.params[j]? = some t → args[j]? = some v → Value.okWide Try.prog W .any base t v := hval0
  have hW' := hW
  obtain ⟨p, q, hA0, hV, rfl, hfz, hnd⟩ := hW
  have hA : DataW.TrodAll enc Try.prog W 0 (fun _ => true) true Try.f6.params.toList args.toList ds p := hA0
  rw [Try.params6] at hA hval
  obtain ⟨v0, vs0, d0, ds0, p0, q0, hargs, rfl, rfl, h0, r0⟩ := trodAll_cons hA
  obtain ⟨rfl, rfl, rfl⟩ := trodAll_nil r0
  obtain rfl : args = #[v0] := by cases args; simp_all
  obtain ⟨rfl, rfl⟩ := trodVars_none hV
  have k0 := h0
  have lt0 : ∀ x ∈ p0, x.block < W.heap.size := by obtain ⟨m, hm⟩ := k0; exact DataW.trod_lt m _ _ _ hm
  obtain ⟨x0, n0, t0, y0, e0, b0, c0, f0⟩ : ∃ (x n : Int) (t y : ByteArray), v0 = .agg #[.int .i64 x, .int .i64 n, .string t, .string y] ∧ (Lit.int .i64 n).wf = true ∧ t.size ≤ maxLen ∧ y.size ≤ maxLen := by
    obtain ⟨c0, c1, c2, c3, y0, y1, y2, y3, m, rfl, _, _, g0, g1, g2, g3⟩ := open_agg4 Try.underlying36 (by kernel_rfl) (by kernel_rfl) (hval 0 36 v0 rfl rfl) h0
    obtain ⟨a, q0, _, _⟩ := DataW.trod_int Try.underlying3 g0
    obtain ⟨b, q1, _, wb⟩ := DataW.trod_int Try.underlying3 g1
    obtain ⟨s, q2, _, ws⟩ := DataW.trod_string Try.underlying9 g2
    obtain ⟨r, q3, _, wr⟩ := DataW.trod_string Try.underlying9 g3
    simp at q0 q1 q2 q3
    subst q0 q1 q2 q3
    exact ⟨a, b, s, r, rfl, wb, ws, wr⟩
  subst e0
  clear hA0 hval0
  refine (walk x0 n0 t0 y0 W b0 c0 f0).mono fun e W' ⟨he, bel⟩ => ?_
  subst he
  exact ⟨_, rfl, _, _, _, [], _, [], hW', trodAll_mk1 (shut_bool Try.underlying4 _), (trodAll_cons_mk (Below.trod laidOut (by kernel_rfl) (of_decide_eq_true (by kernel_rfl)) k0 bel lt0) trodAll_mk0), rfl, bel.frame _, fun h => by cases h⟩

theorem over : Rows.fnExactGoodAtomRow.holds Try.pinned (OpenSpec.ofChange Rows.fnExactGoodAtomSpec) :=
  OpenClaim.holds_of_wide 6 Try.f6 rfl rfl rfl rfl rfl rfl rfl ⟨rfl, rfl, rfl, rfl, rfl⟩ rfl rfl rfl rfl rfl (by kernel_rfl) Try.func6 (by kernel_rfl)
    (of_decide_eq_true (by kernel_rfl)) (by unfold Func.isWrapper; rw [if_neg (by decide +kernel)]; exact ⟨rfl, rfl⟩)
    (fun os started H enc _ => lifted os started H enc)
end Go.Proofs.Ythbakjnojjkmmaa.fnExactGoodAtom
namespace Go.Proofs.Ythbakjnojjkmmaa
theorem fnExactGoodAtom_holds : Rows.FnExactGoodAtomSaid := fnExactGoodAtom.over
end Go.Proofs.Ythbakjnojjkmmaa
