/- spec.GoodChange, any kind. -/
import Derived.Test.YtpdnimchmgbijaaQChS1
import Derived.Test.YtpdnimchmgbijaaQChS2
import Derived.Test.YtpdnimchmgbijaaQChS4
namespace Go.Proofs.Ytpdnimchmgbijaa
open Go.RowKit

theorem sGoodChange_any (t o k u p : Int) (pa pt a x : ByteArray) (w : World) (i1 : pa.size ≤ maxLen) (i2 : pt.size ≤ maxLen) (i3 : a.size ≤ maxLen) (i4 : x.size ≤ maxLen) :
    Calls Try.prog 25 #[.agg #[.int .i64 t, .int .i64 o, .int .i64 k, .int .i64 u, .int .i64 p, .string pa, .string pt, .string a, .string x]] w fun e w' => e = .returned (.bool (chB ⟨t, o, k, u, p, pa, pt, a, x⟩)) ∧ Below w.heap.size w w' := by
  rw [chB_rg]
  by_cases h : t < 1 ∨ 1000000000 < t ∨ o < 0 ∨ 99 < o ∨ u < 1 ∨ 1000 < u
  · rw [rg_false h, Bool.false_and]
    exact sGoodChange_out t o k u p pa pt a x w h
  have g1 : ¬ t < 1 := by omega
  have g2 : ¬ 1000000000 < t := by omega
  have g3 : ¬ o < 0 := by omega
  have g4 : ¬ 99 < o := by omega
  have g5 : ¬ u < 1 := by omega
  have g6 : ¬ 1000 < u := by omega
  rw [rg_true g1 g2 g3 g4 g5 g6, Bool.true_and]
  by_cases k1 : k = 1
  · subst k1; rw [kindB_1]; exact sGoodChange_1 t o u p pa pt a x w i1 i2 i3 i4 g1 g2 g3 g4 g5 g6
  by_cases k2 : k = 2
  · subst k2; rw [kindB_23 (.inl rfl)]; exact sGoodChange_2 t o u p pa pt a x w i1 i2 i3 i4 g1 g2 g3 g4 g5 g6
  by_cases k3 : k = 3
  · subst k3; rw [kindB_23 (.inr rfl)]; exact sGoodChange_3 t o u p pa pt a x w i1 i2 i3 i4 g1 g2 g3 g4 g5 g6
  by_cases k4 : k = 4
  · subst k4; rw [kindB_4]; exact sGoodChange_4 t o u p pa pt a x w i1 i2 i3 i4 g1 g2 g3 g4 g5 g6
  rw [kindB_else k1 k2 k3 k4]
  exact sGoodChange_else t o k u p pa pt a x w k1 k2 k3 k4 g1 g2 g3 g4 g5 g6
end Go.Proofs.Ytpdnimchmgbijaa
