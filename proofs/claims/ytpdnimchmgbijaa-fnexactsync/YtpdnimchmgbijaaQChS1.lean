/- spec.GoodChange, ChangePlace. -/
import Derived.Test.YtpdnimchmgbijaaQChS
namespace Go.Proofs.Ytpdnimchmgbijaa
open Go.RowKit
set_option linter.unusedVariables false

set_option maxHeartbeats 2000000 in
theorem sGoodChange_1 (t o u p : Int) (pa pt a x : ByteArray) (w : World) (i1 : pa.size ≤ maxLen) (i2 : pt.size ≤ maxLen) (i3 : a.size ≤ maxLen) (i4 : x.size ≤ maxLen) (h1 : ¬ t < 1) (h2 : ¬ 1000000000 < t) (h3 : ¬ o < 0) (h4 : ¬ 99 < o) (h5 : ¬ u < 1) (h6 : ¬ 1000 < u) :
    Calls Try.prog 25 #[.agg #[.int .i64 t, .int .i64 o, .int .i64 1, .int .i64 u, .int .i64 p, .string pa, .string pt, .string a, .string x]] w fun e w' => e = .returned (.bool (a.toList.isEmpty && (x.toList.isEmpty && plB p pa pt))) ∧ Below w.heap.size w w' := by
  have q1 := hide (fun w => sGoodName_any pa i1 w)
  have q3 := hide (fun w => l1Printed_any pt i2 w)
  have q5 := hide (fun w => l4Tilde_any pt i2 w)
  unfold maxLen at i1 i2 i3 i4
  unfold plB
  generalize goodName pa = N1 at q1 ⊢
  generalize textL pt = X1 at q3 ⊢
  generalize ntB pt = Y1 at q5 ⊢
  obtain ⟨T, hT⟩ : ∃ T, (a.toList.isEmpty && (x.toList.isEmpty && (decide (0 ≤ p) && (decide (p ≤ 1000) && (N1 && (decide (1 ≤ pt.size) && (decide (pt.size ≤ 50) && (X1 && Y1)))))))) = T := ⟨_, rfl⟩
  rw [hT]
  cases e1 : a.toList.isEmpty
  case false =>
    obtain rfl : T = false := by rw [← hT]; simp [e1]
    clear hT
    go_enter Try.func25, Try.ntmps25
    go_wp2_with (first | (go_at_call 39; refine (unhide q1 _).mono ?_; rintro e w' ⟨rfl, rfl⟩) | (go_at_call 40; refine (unhide q3 _).mono ?_; rintro e w' ⟨rfl, rfl⟩) | (go_at_call 41; refine (unhide q5 _).mono ?_; rintro e w' ⟨rfl, rfl⟩))
    all_goals go_ret
    all_goals exact ⟨rfl, bAl (Below.refl _ _) _⟩
  rw [e1, Bool.true_and] at hT
  cases e2 : x.toList.isEmpty
  case false =>
    obtain rfl : T = false := by rw [← hT]; simp [e2]
    clear hT
    go_enter Try.func25, Try.ntmps25
    go_wp2_with (first | (go_at_call 39; refine (unhide q1 _).mono ?_; rintro e w' ⟨rfl, rfl⟩) | (go_at_call 40; refine (unhide q3 _).mono ?_; rintro e w' ⟨rfl, rfl⟩) | (go_at_call 41; refine (unhide q5 _).mono ?_; rintro e w' ⟨rfl, rfl⟩))
    all_goals go_ret
    all_goals exact ⟨rfl, bAl (Below.refl _ _) _⟩
  rw [e2, Bool.true_and] at hT
  by_cases g3 : 0 ≤ p
  case neg =>
    have d3 := decide_eq_false g3
    obtain rfl : T = false := by rw [← hT, d3]; simp
    clear hT d3
    go_enter Try.func25, Try.ntmps25
    go_wp2_with (first | (go_at_call 39; refine (unhide q1 _).mono ?_; rintro e w' ⟨rfl, rfl⟩) | (go_at_call 40; refine (unhide q3 _).mono ?_; rintro e w' ⟨rfl, rfl⟩) | (go_at_call 41; refine (unhide q5 _).mono ?_; rintro e w' ⟨rfl, rfl⟩))
    all_goals go_ret
    all_goals exact ⟨rfl, bAl (Below.refl _ _) _⟩
  rw [decide_eq_true g3, Bool.true_and] at hT
  by_cases g4 : p ≤ 1000
  case neg =>
    have d4 := decide_eq_false g4
    obtain rfl : T = false := by rw [← hT, d4]; simp
    clear hT d4
    go_enter Try.func25, Try.ntmps25
    go_wp2_with (first | (go_at_call 39; refine (unhide q1 _).mono ?_; rintro e w' ⟨rfl, rfl⟩) | (go_at_call 40; refine (unhide q3 _).mono ?_; rintro e w' ⟨rfl, rfl⟩) | (go_at_call 41; refine (unhide q5 _).mono ?_; rintro e w' ⟨rfl, rfl⟩))
    all_goals go_ret
    all_goals exact ⟨rfl, bAl (Below.refl _ _) _⟩
  rw [decide_eq_true g4, Bool.true_and] at hT
  cases N1
  case false =>
    obtain rfl : T = false := by rw [← hT]; simp
    clear hT
    go_enter Try.func25, Try.ntmps25
    go_wp2_with (first | (go_at_call 39; refine (unhide q1 _).mono ?_; rintro e w' ⟨rfl, rfl⟩) | (go_at_call 40; refine (unhide q3 _).mono ?_; rintro e w' ⟨rfl, rfl⟩) | (go_at_call 41; refine (unhide q5 _).mono ?_; rintro e w' ⟨rfl, rfl⟩))
    all_goals go_ret
    all_goals exact ⟨rfl, bAl (Below.refl _ _) _⟩
  rw [Bool.true_and] at hT
  by_cases g6 : 1 ≤ pt.size
  case neg =>
    have d6 := decide_eq_false g6
    obtain rfl : T = false := by rw [← hT, d6]; simp
    clear hT d6
    go_enter Try.func25, Try.ntmps25
    go_wp2_with (first | (go_at_call 39; refine (unhide q1 _).mono ?_; rintro e w' ⟨rfl, rfl⟩) | (go_at_call 40; refine (unhide q3 _).mono ?_; rintro e w' ⟨rfl, rfl⟩) | (go_at_call 41; refine (unhide q5 _).mono ?_; rintro e w' ⟨rfl, rfl⟩))
    all_goals go_ret
    all_goals exact ⟨rfl, bAl (Below.refl _ _) _⟩
  rw [decide_eq_true g6, Bool.true_and] at hT
  by_cases g7 : pt.size ≤ 50
  case neg =>
    have d7 := decide_eq_false g7
    obtain rfl : T = false := by rw [← hT, d7]; simp
    clear hT d7
    go_enter Try.func25, Try.ntmps25
    go_wp2_with (first | (go_at_call 39; refine (unhide q1 _).mono ?_; rintro e w' ⟨rfl, rfl⟩) | (go_at_call 40; refine (unhide q3 _).mono ?_; rintro e w' ⟨rfl, rfl⟩) | (go_at_call 41; refine (unhide q5 _).mono ?_; rintro e w' ⟨rfl, rfl⟩))
    all_goals go_ret
    all_goals exact ⟨rfl, bAl (Below.refl _ _) _⟩
  rw [decide_eq_true g7, Bool.true_and] at hT
  cases X1
  case false =>
    obtain rfl : T = false := by rw [← hT]; simp
    clear hT
    go_enter Try.func25, Try.ntmps25
    go_wp2_with (first | (go_at_call 39; refine (unhide q1 _).mono ?_; rintro e w' ⟨rfl, rfl⟩) | (go_at_call 40; refine (unhide q3 _).mono ?_; rintro e w' ⟨rfl, rfl⟩) | (go_at_call 41; refine (unhide q5 _).mono ?_; rintro e w' ⟨rfl, rfl⟩))
    all_goals go_ret
    all_goals exact ⟨rfl, bAl (Below.refl _ _) _⟩
  rw [Bool.true_and] at hT
  cases Y1
  case false =>
    obtain rfl : T = false := by rw [← hT]
    clear hT
    go_enter Try.func25, Try.ntmps25
    go_wp2_with (first | (go_at_call 39; refine (unhide q1 _).mono ?_; rintro e w' ⟨rfl, rfl⟩) | (go_at_call 40; refine (unhide q3 _).mono ?_; rintro e w' ⟨rfl, rfl⟩) | (go_at_call 41; refine (unhide q5 _).mono ?_; rintro e w' ⟨rfl, rfl⟩))
    all_goals go_ret
    all_goals exact ⟨rfl, bAl (Below.refl _ _) _⟩

  subst hT
  go_enter Try.func25, Try.ntmps25
  go_wp2_with (first | (go_at_call 39; refine (unhide q1 _).mono ?_; rintro e w' ⟨rfl, rfl⟩) | (go_at_call 40; refine (unhide q3 _).mono ?_; rintro e w' ⟨rfl, rfl⟩) | (go_at_call 41; refine (unhide q5 _).mono ?_; rintro e w' ⟨rfl, rfl⟩))
  all_goals go_ret
  all_goals exact ⟨rfl, bAl (Below.refl _ _) _⟩
end Go.Proofs.Ytpdnimchmgbijaa
