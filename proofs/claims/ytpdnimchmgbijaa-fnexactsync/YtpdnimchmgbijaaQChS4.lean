/- spec.GoodChange, ChangeDrop. -/
import Derived.Test.YtpdnimchmgbijaaQChS
namespace Go.Proofs.Ytpdnimchmgbijaa
open Go.RowKit
set_option linter.unusedVariables false

set_option maxHeartbeats 2000000 in
theorem sGoodChange_4 (t o u p : Int) (pa pt a x : ByteArray) (w : World) (i1 : pa.size ≤ maxLen) (i2 : pt.size ≤ maxLen) (i3 : a.size ≤ maxLen) (i4 : x.size ≤ maxLen) (h1 : ¬ t < 1) (h2 : ¬ 1000000000 < t) (h3 : ¬ o < 0) (h4 : ¬ 99 < o) (h5 : ¬ u < 1) (h6 : ¬ 1000 < u) :
    Calls Try.prog 25 #[.agg #[.int .i64 t, .int .i64 o, .int .i64 4, .int .i64 u, .int .i64 p, .string pa, .string pt, .string a, .string x]] w fun e w' => e = .returned (.bool ((p == 0) && (pa.toList.isEmpty && (pt.toList.isEmpty && (a.toList.isEmpty && x.toList.isEmpty))))) ∧ Below w.heap.size w w' := by
  unfold maxLen at i1 i2 i3 i4
  obtain ⟨T, hT⟩ : ∃ T, ((p == 0) && (pa.toList.isEmpty && (pt.toList.isEmpty && (a.toList.isEmpty && x.toList.isEmpty)))) = T := ⟨_, rfl⟩
  rw [hT]
  cases e1 : (p == 0)
  case false =>
    obtain rfl : T = false := by rw [← hT]; simp [e1]
    clear hT
    go_enter Try.func25, Try.ntmps25
    go_wp2_with fail
    all_goals go_ret
    all_goals exact ⟨rfl, bAl (Below.refl _ _) _⟩
  rw [e1, Bool.true_and] at hT
  cases e2 : pa.toList.isEmpty
  case false =>
    obtain rfl : T = false := by rw [← hT]; simp [e2]
    clear hT
    go_enter Try.func25, Try.ntmps25
    go_wp2_with fail
    all_goals go_ret
    all_goals exact ⟨rfl, bAl (Below.refl _ _) _⟩
  rw [e2, Bool.true_and] at hT
  cases e3 : pt.toList.isEmpty
  case false =>
    obtain rfl : T = false := by rw [← hT]; simp [e3]
    clear hT
    go_enter Try.func25, Try.ntmps25
    go_wp2_with fail
    all_goals go_ret
    all_goals exact ⟨rfl, bAl (Below.refl _ _) _⟩
  rw [e3, Bool.true_and] at hT
  cases e4 : a.toList.isEmpty
  case false =>
    obtain rfl : T = false := by rw [← hT]; simp [e4]
    clear hT
    go_enter Try.func25, Try.ntmps25
    go_wp2_with fail
    all_goals go_ret
    all_goals exact ⟨rfl, bAl (Below.refl _ _) _⟩
  rw [e4, Bool.true_and] at hT
  cases e5 : x.toList.isEmpty
  case false =>
    obtain rfl : T = false := by rw [← hT]; simp [e5]
    clear hT
    go_enter Try.func25, Try.ntmps25
    go_wp2_with fail
    all_goals go_ret
    all_goals exact ⟨rfl, bAl (Below.refl _ _) _⟩
  rw [e5] at hT
  subst hT
  go_enter Try.func25, Try.ntmps25
  go_wp2_with fail
  all_goals go_ret
  all_goals exact ⟨rfl, bAl (Below.refl _ _) _⟩
end Go.Proofs.Ytpdnimchmgbijaa
