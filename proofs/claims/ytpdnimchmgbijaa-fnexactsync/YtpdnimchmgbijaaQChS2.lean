/- spec.GoodChange, ChangePut, ChangeTake. -/
import Derived.Test.YtpdnimchmgbijaaQChS
namespace Go.Proofs.Ytpdnimchmgbijaa
open Go.RowKit
set_option linter.unusedVariables false

set_option maxHeartbeats 2000000 in
theorem sGoodChange_2 (t o u p : Int) (pa pt a x : ByteArray) (w : World) (i1 : pa.size ≤ maxLen) (i2 : pt.size ≤ maxLen) (i3 : a.size ≤ maxLen) (i4 : x.size ≤ maxLen) (h1 : ¬ t < 1) (h2 : ¬ 1000000000 < t) (h3 : ¬ o < 0) (h4 : ¬ 99 < o) (h5 : ¬ u < 1) (h6 : ¬ 1000 < u) :
    Calls Try.prog 25 #[.agg #[.int .i64 t, .int .i64 o, .int .i64 2, .int .i64 u, .int .i64 p, .string pa, .string pt, .string a, .string x]] w fun e w' => e = .returned (.bool ((p == 0) && (pa.toList.isEmpty && (pt.toList.isEmpty && (goodName a && (decide (1 ≤ x.size) && (decide (x.size ≤ 200) && textL x))))))) ∧ Below w.heap.size w w' := by
  have q2 := hide (fun w => sGoodName_any a i3 w)
  have q4 := hide (fun w => l1Printed_any x i4 w)
  unfold maxLen at i1 i2 i3 i4
  generalize goodName a = N2 at q2 ⊢
  generalize textL x = X2 at q4 ⊢
  obtain ⟨T, hT⟩ : ∃ T, ((p == 0) && (pa.toList.isEmpty && (pt.toList.isEmpty && (N2 && (decide (1 ≤ x.size) && (decide (x.size ≤ 200) && X2)))))) = T := ⟨_, rfl⟩
  rw [hT]
  cases e1 : (p == 0)
  case false =>
    obtain rfl : T = false := by rw [← hT]; simp [e1]
    clear hT
    go_enter Try.func25, Try.ntmps25
    go_wp2_with (first | (go_at_call 39; refine (unhide q2 _).mono ?_; rintro e w' ⟨rfl, rfl⟩) | (go_at_call 40; refine (unhide q4 _).mono ?_; rintro e w' ⟨rfl, rfl⟩))
    all_goals go_ret
    all_goals exact ⟨rfl, bAl (Below.refl _ _) _⟩
  rw [e1, Bool.true_and] at hT
  cases e2 : pa.toList.isEmpty
  case false =>
    obtain rfl : T = false := by rw [← hT]; simp [e2]
    clear hT
    go_enter Try.func25, Try.ntmps25
    go_wp2_with (first | (go_at_call 39; refine (unhide q2 _).mono ?_; rintro e w' ⟨rfl, rfl⟩) | (go_at_call 40; refine (unhide q4 _).mono ?_; rintro e w' ⟨rfl, rfl⟩))
    all_goals go_ret
    all_goals exact ⟨rfl, bAl (Below.refl _ _) _⟩
  rw [e2, Bool.true_and] at hT
  cases e3 : pt.toList.isEmpty
  case false =>
    obtain rfl : T = false := by rw [← hT]; simp [e3]
    clear hT
    go_enter Try.func25, Try.ntmps25
    go_wp2_with (first | (go_at_call 39; refine (unhide q2 _).mono ?_; rintro e w' ⟨rfl, rfl⟩) | (go_at_call 40; refine (unhide q4 _).mono ?_; rintro e w' ⟨rfl, rfl⟩))
    all_goals go_ret
    all_goals exact ⟨rfl, bAl (Below.refl _ _) _⟩
  rw [e3, Bool.true_and] at hT
  cases N2
  case false =>
    obtain rfl : T = false := by rw [← hT]; simp
    clear hT
    go_enter Try.func25, Try.ntmps25
    go_wp2_with (first | (go_at_call 39; refine (unhide q2 _).mono ?_; rintro e w' ⟨rfl, rfl⟩) | (go_at_call 40; refine (unhide q4 _).mono ?_; rintro e w' ⟨rfl, rfl⟩))
    all_goals go_ret
    all_goals exact ⟨rfl, bAl (Below.refl _ _) _⟩
  rw [Bool.true_and] at hT
  by_cases g5 : 1 ≤ x.size
  case neg =>
    have d5 := decide_eq_false g5
    obtain rfl : T = false := by rw [← hT, d5]; simp
    clear hT d5
    go_enter Try.func25, Try.ntmps25
    go_wp2_with (first | (go_at_call 39; refine (unhide q2 _).mono ?_; rintro e w' ⟨rfl, rfl⟩) | (go_at_call 40; refine (unhide q4 _).mono ?_; rintro e w' ⟨rfl, rfl⟩))
    all_goals go_ret
    all_goals exact ⟨rfl, bAl (Below.refl _ _) _⟩
  rw [decide_eq_true g5, Bool.true_and] at hT
  by_cases g6 : x.size ≤ 200
  case neg =>
    have d6 := decide_eq_false g6
    obtain rfl : T = false := by rw [← hT, d6]; simp
    clear hT d6
    go_enter Try.func25, Try.ntmps25
    go_wp2_with (first | (go_at_call 39; refine (unhide q2 _).mono ?_; rintro e w' ⟨rfl, rfl⟩) | (go_at_call 40; refine (unhide q4 _).mono ?_; rintro e w' ⟨rfl, rfl⟩))
    all_goals go_ret
    all_goals exact ⟨rfl, bAl (Below.refl _ _) _⟩
  rw [decide_eq_true g6, Bool.true_and] at hT
  cases X2
  case false =>
    obtain rfl : T = false := by rw [← hT]
    clear hT
    go_enter Try.func25, Try.ntmps25
    go_wp2_with (first | (go_at_call 39; refine (unhide q2 _).mono ?_; rintro e w' ⟨rfl, rfl⟩) | (go_at_call 40; refine (unhide q4 _).mono ?_; rintro e w' ⟨rfl, rfl⟩))
    all_goals go_ret
    all_goals exact ⟨rfl, bAl (Below.refl _ _) _⟩

  subst hT
  go_enter Try.func25, Try.ntmps25
  go_wp2_with (first | (go_at_call 39; refine (unhide q2 _).mono ?_; rintro e w' ⟨rfl, rfl⟩) | (go_at_call 40; refine (unhide q4 _).mono ?_; rintro e w' ⟨rfl, rfl⟩))
  all_goals go_ret
  all_goals exact ⟨rfl, bAl (Below.refl _ _) _⟩

set_option maxHeartbeats 2000000 in
theorem sGoodChange_3 (t o u p : Int) (pa pt a x : ByteArray) (w : World) (i1 : pa.size ≤ maxLen) (i2 : pt.size ≤ maxLen) (i3 : a.size ≤ maxLen) (i4 : x.size ≤ maxLen) (h1 : ¬ t < 1) (h2 : ¬ 1000000000 < t) (h3 : ¬ o < 0) (h4 : ¬ 99 < o) (h5 : ¬ u < 1) (h6 : ¬ 1000 < u) :
    Calls Try.prog 25 #[.agg #[.int .i64 t, .int .i64 o, .int .i64 3, .int .i64 u, .int .i64 p, .string pa, .string pt, .string a, .string x]] w fun e w' => e = .returned (.bool ((p == 0) && (pa.toList.isEmpty && (pt.toList.isEmpty && (goodName a && (decide (1 ≤ x.size) && (decide (x.size ≤ 200) && textL x))))))) ∧ Below w.heap.size w w' := by
  have q2 := hide (fun w => sGoodName_any a i3 w)
  have q4 := hide (fun w => l1Printed_any x i4 w)
  unfold maxLen at i1 i2 i3 i4
  generalize goodName a = N2 at q2 ⊢
  generalize textL x = X2 at q4 ⊢
  obtain ⟨T, hT⟩ : ∃ T, ((p == 0) && (pa.toList.isEmpty && (pt.toList.isEmpty && (N2 && (decide (1 ≤ x.size) && (decide (x.size ≤ 200) && X2)))))) = T := ⟨_, rfl⟩
  rw [hT]
  cases e1 : (p == 0)
  case false =>
    obtain rfl : T = false := by rw [← hT]; simp [e1]
    clear hT
    go_enter Try.func25, Try.ntmps25
    go_wp2_with (first | (go_at_call 39; refine (unhide q2 _).mono ?_; rintro e w' ⟨rfl, rfl⟩) | (go_at_call 40; refine (unhide q4 _).mono ?_; rintro e w' ⟨rfl, rfl⟩))
    all_goals go_ret
    all_goals exact ⟨rfl, bAl (Below.refl _ _) _⟩
  rw [e1, Bool.true_and] at hT
  cases e2 : pa.toList.isEmpty
  case false =>
    obtain rfl : T = false := by rw [← hT]; simp [e2]
    clear hT
    go_enter Try.func25, Try.ntmps25
    go_wp2_with (first | (go_at_call 39; refine (unhide q2 _).mono ?_; rintro e w' ⟨rfl, rfl⟩) | (go_at_call 40; refine (unhide q4 _).mono ?_; rintro e w' ⟨rfl, rfl⟩))
    all_goals go_ret
    all_goals exact ⟨rfl, bAl (Below.refl _ _) _⟩
  rw [e2, Bool.true_and] at hT
  cases e3 : pt.toList.isEmpty
  case false =>
    obtain rfl : T = false := by rw [← hT]; simp [e3]
    clear hT
    go_enter Try.func25, Try.ntmps25
    go_wp2_with (first | (go_at_call 39; refine (unhide q2 _).mono ?_; rintro e w' ⟨rfl, rfl⟩) | (go_at_call 40; refine (unhide q4 _).mono ?_; rintro e w' ⟨rfl, rfl⟩))
    all_goals go_ret
    all_goals exact ⟨rfl, bAl (Below.refl _ _) _⟩
  rw [e3, Bool.true_and] at hT
  cases N2
  case false =>
    obtain rfl : T = false := by rw [← hT]; simp
    clear hT
    go_enter Try.func25, Try.ntmps25
    go_wp2_with (first | (go_at_call 39; refine (unhide q2 _).mono ?_; rintro e w' ⟨rfl, rfl⟩) | (go_at_call 40; refine (unhide q4 _).mono ?_; rintro e w' ⟨rfl, rfl⟩))
    all_goals go_ret
    all_goals exact ⟨rfl, bAl (Below.refl _ _) _⟩
  rw [Bool.true_and] at hT
  by_cases g5 : 1 ≤ x.size
  case neg =>
    have d5 := decide_eq_false g5
    obtain rfl : T = false := by rw [← hT, d5]; simp
    clear hT d5
    go_enter Try.func25, Try.ntmps25
    go_wp2_with (first | (go_at_call 39; refine (unhide q2 _).mono ?_; rintro e w' ⟨rfl, rfl⟩) | (go_at_call 40; refine (unhide q4 _).mono ?_; rintro e w' ⟨rfl, rfl⟩))
    all_goals go_ret
    all_goals exact ⟨rfl, bAl (Below.refl _ _) _⟩
  rw [decide_eq_true g5, Bool.true_and] at hT
  by_cases g6 : x.size ≤ 200
  case neg =>
    have d6 := decide_eq_false g6
    obtain rfl : T = false := by rw [← hT, d6]; simp
    clear hT d6
    go_enter Try.func25, Try.ntmps25
    go_wp2_with (first | (go_at_call 39; refine (unhide q2 _).mono ?_; rintro e w' ⟨rfl, rfl⟩) | (go_at_call 40; refine (unhide q4 _).mono ?_; rintro e w' ⟨rfl, rfl⟩))
    all_goals go_ret
    all_goals exact ⟨rfl, bAl (Below.refl _ _) _⟩
  rw [decide_eq_true g6, Bool.true_and] at hT
  cases X2
  case false =>
    obtain rfl : T = false := by rw [← hT]
    clear hT
    go_enter Try.func25, Try.ntmps25
    go_wp2_with (first | (go_at_call 39; refine (unhide q2 _).mono ?_; rintro e w' ⟨rfl, rfl⟩) | (go_at_call 40; refine (unhide q4 _).mono ?_; rintro e w' ⟨rfl, rfl⟩))
    all_goals go_ret
    all_goals exact ⟨rfl, bAl (Below.refl _ _) _⟩

  subst hT
  go_enter Try.func25, Try.ntmps25
  go_wp2_with (first | (go_at_call 39; refine (unhide q2 _).mono ?_; rintro e w' ⟨rfl, rfl⟩) | (go_at_call 40; refine (unhide q4 _).mono ?_; rintro e w' ⟨rfl, rfl⟩))
  all_goals go_ret
  all_goals exact ⟨rfl, bAl (Below.refl _ _) _⟩
end Go.Proofs.Ytpdnimchmgbijaa
