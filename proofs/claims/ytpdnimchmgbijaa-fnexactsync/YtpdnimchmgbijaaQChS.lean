/- spec.GoodChange. -/
import Derived.Test.YtpdnimchmgbijaaQChB
namespace Go.Proofs.Ytpdnimchmgbijaa
open Go.RowKit

def rgB (t o u : Int) : Bool := stB t o && (decide (1 ≤ u) && decide (u ≤ 1000))
theorem chB_rg (t o k u p : Int) (pa pt a x : ByteArray) : chB ⟨t, o, k, u, p, pa, pt, a, x⟩ = (rgB t o u && kindB k p pa pt a x) := by
  unfold chB rgB; simp only [Bool.and_assoc]
theorem kindB_1 (p : Int) (pa pt a x : ByteArray) : kindB 1 p pa pt a x = (a.toList.isEmpty && (x.toList.isEmpty && plB p pa pt)) := rfl
theorem kindB_23 {k : Int} (h : k = 2 ∨ k = 3) (p : Int) (pa pt a x : ByteArray) : kindB k p pa pt a x = ((p == 0) && (pa.toList.isEmpty && (pt.toList.isEmpty && (goodName a && (decide (1 ≤ x.size) && (decide (x.size ≤ 200) && textL x)))))) := by
  rcases h with rfl | rfl <;> rfl
theorem kindB_4 (p : Int) (pa pt a x : ByteArray) : kindB 4 p pa pt a x = ((p == 0) && (pa.toList.isEmpty && (pt.toList.isEmpty && (a.toList.isEmpty && x.toList.isEmpty)))) := rfl
theorem kindB_else {k : Int} (h1 : ¬ k = 1) (h2 : ¬ k = 2) (h3 : ¬ k = 3) (h4 : ¬ k = 4) (p : Int) (pa pt a x : ByteArray) : kindB k p pa pt a x = false := by
  unfold kindB
  rw [if_neg h1, if_neg (by omega), if_neg h4]
theorem rg_true {t o u : Int} (h1 : ¬ t < 1) (h2 : ¬ 1000000000 < t) (h3 : ¬ o < 0) (h4 : ¬ 99 < o) (h5 : ¬ u < 1) (h6 : ¬ 1000 < u) : rgB t o u = true := by
  unfold rgB stB; simp; omega
theorem rg_false {t o u : Int} (h : t < 1 ∨ 1000000000 < t ∨ o < 0 ∨ 99 < o ∨ u < 1 ∨ 1000 < u) : rgB t o u = false := by
  unfold rgB stB
  cases hh : (decide (1 ≤ t) && (decide (t ≤ 1000000000) && (decide (0 ≤ o) && decide (o ≤ 99))) && (decide (1 ≤ u) && decide (u ≤ 1000)))
  · rfl
  · simp at hh; omega

theorem sGoodChange_out (t o k u p : Int) (pa pt a x : ByteArray) (w : World) (h : t < 1 ∨ 1000000000 < t ∨ o < 0 ∨ 99 < o ∨ u < 1 ∨ 1000 < u) :
    Calls Try.prog 25 #[.agg #[.int .i64 t, .int .i64 o, .int .i64 k, .int .i64 u, .int .i64 p, .string pa, .string pt, .string a, .string x]] w fun e w' => e = .returned (.bool false) ∧ Below w.heap.size w w' := by
  have hh : t < 1 ∨ (¬ t < 1 ∧ 1000000000 < t) ∨ (¬ t < 1 ∧ ¬ 1000000000 < t ∧ o < 0) ∨ (¬ t < 1 ∧ ¬ 1000000000 < t ∧ ¬ o < 0 ∧ 99 < o) ∨ (¬ t < 1 ∧ ¬ 1000000000 < t ∧ ¬ o < 0 ∧ ¬ 99 < o ∧ u < 1) ∨ (¬ t < 1 ∧ ¬ 1000000000 < t ∧ ¬ o < 0 ∧ ¬ 99 < o ∧ ¬ u < 1 ∧ 1000 < u) := by omega
  clear h
  rcases hh with h1 | ⟨h1, h2⟩ | ⟨h1, h2, h3⟩ | ⟨h1, h2, h3, h4⟩ | ⟨h1, h2, h3, h4, h5⟩ | ⟨h1, h2, h3, h4, h5, h6⟩
  all_goals
    go_enter Try.func25, Try.ntmps25
    go_wp2_with fail
    go_ret
    exact ⟨rfl, bAl (Below.refl _ _) _⟩

theorem sGoodChange_else (t o k u p : Int) (pa pt a x : ByteArray) (w : World) (k1 : ¬ k = 1) (k2 : ¬ k = 2) (k3 : ¬ k = 3) (k4 : ¬ k = 4) (h1 : ¬ t < 1) (h2 : ¬ 1000000000 < t) (h3 : ¬ o < 0) (h4 : ¬ 99 < o) (h5 : ¬ u < 1) (h6 : ¬ 1000 < u) :
    Calls Try.prog 25 #[.agg #[.int .i64 t, .int .i64 o, .int .i64 k, .int .i64 u, .int .i64 p, .string pa, .string pt, .string a, .string x]] w fun e w' => e = .returned (.bool false) ∧ Below w.heap.size w w' := by
  have t1 : (k == 1) = false := by simpa using k1
  have t2 : (k == 2) = false := by simpa using k2
  have t3 : (k == 3) = false := by simpa using k3
  have t4 : (k == 4) = false := by simpa using k4
  clear k1 k2 k3 k4
  go_enter Try.func25, Try.ntmps25
  go_wp2_with fail
  all_goals go_ret
  all_goals exact ⟨rfl, bAl (Below.refl _ _) _⟩

end Go.Proofs.Ytpdnimchmgbijaa
