/- impl.GoodChange, any kind. -/
import Derived.Test.YtpdnimchmgbijaaQChJ
import Derived.Test.YtpdnimchmgbijaaQChS
namespace Go.Proofs.Ytpdnimchmgbijaa
open Go.RowKit

theorem iGoodChange_any (t o k u p : Int) (pa pt a x : ByteArray) (w : World) (i1 : pa.size ≤ maxLen) (i2 : pt.size ≤ maxLen) (i3 : a.size ≤ maxLen) (i4 : x.size ≤ maxLen) :
    Calls Try.prog 43 #[.agg #[.int .i64 t, .int .i64 o, .int .i64 k, .int .i64 u, .int .i64 p, .string pa, .string pt, .string a, .string x]] w fun e w' => e = .returned (.bool (chB ⟨t, o, k, u, p, pa, pt, a, x⟩)) ∧ Below w.heap.size w w' := by
  rw [chB_rg]
  unfold rgB
  cases hs : stB t o
  · rw [Bool.false_and, Bool.false_and]
    exact iGoodChange_out t o k u p pa pt a x w (.inl hs)
  rw [Bool.true_and]
  by_cases h5 : u < 1
  · rw [decide_eq_false (show ¬ 1 ≤ u by omega), Bool.false_and, Bool.false_and]
    exact iGoodChange_out t o k u p pa pt a x w (.inr (.inl ⟨hs, h5⟩))
  by_cases h6 : 1000 < u
  · rw [decide_eq_false (show ¬ u ≤ 1000 by omega), Bool.and_false, Bool.false_and]
    exact iGoodChange_out t o k u p pa pt a x w (.inr (.inr ⟨hs, h5, h6⟩))
  rw [decide_eq_true (show 1 ≤ u by omega), decide_eq_true (show u ≤ 1000 by omega), Bool.true_and, Bool.true_and]
  by_cases k1 : k = 1
  · subst k1; rw [kindB_1]; exact iGoodChange_1 t o u p pa pt a x w i1 i2 hs h5 h6
  by_cases k2 : k = 2
  · subst k2; rw [kindB_23 (.inl rfl)]; exact iGoodChange_2 t o u p pa pt a x w i3 i4 hs h5 h6
  by_cases k3 : k = 3
  · subst k3; rw [kindB_23 (.inr rfl)]; exact iGoodChange_3 t o u p pa pt a x w i3 i4 hs h5 h6
  by_cases k4 : k = 4
  · subst k4; rw [kindB_4]; exact iGoodChange_4 t o u p pa pt a x w hs h5 h6
  rw [kindB_else k1 k2 k3 k4]
  exact iGoodChange_else t o k u p pa pt a x w k1 k2 k3 k4 hs h5 h6
end Go.Proofs.Ytpdnimchmgbijaa
