/- QAtS, QAtm, one behind the other. -/
import Derived.Test.YtdflnjjomljgmaaGreatDoorJ7
/- spec.GoodAtom (14). -/
namespace Go.Proofs.YtdflnjjomljgmaaGreatDoor
open Go.RowKit

set_option maxHeartbeats 1000000 in
theorem sGoodAtom_plain (k n : Int) (hk : k = 1 ∨ k = 2 ∨ k = 5 ∨ k = 7) (t ty : ByteArray) (w : World) :
    Calls Tryz.prog 60 #[.agg #[.int .i64 k, .int .i64 n, .string t, .string ty]] w fun e w' => e = .returned (.bool (goodAtom k n t ty)) ∧ Below w.heap.size w w' := by
  rw [goodAtom_plain (by omega)]
  cases ht : t.toList.isEmpty <;> cases hty : ty.toList.isEmpty <;> rcases hk with rfl | rfl | rfl | rfl
  all_goals
    go_enter Tryz.func60, Tryz.ntmps60
    go_wp2
    all_goals go_ret
    all_goals refine ⟨ret_bool ?_, bAl (Below.refl _ _) _⟩
    all_goals first
      | rfl
      | (simp [numB]; done)
      | (simp [numB, *]; done)
      | (rw [Bool.eq_iff_iff]; simp [numB]; omega)

set_option maxHeartbeats 1000000 in
theorem sGoodAtom_3 (n : Int) (t ty : ByteArray) (w : World) (ht : t.size ≤ maxLen) :
    Calls Tryz.prog 60 #[.agg #[.int .i64 3, .int .i64 n, .string t, .string ty]] w fun e w' => e = .returned (.bool (goodAtom 3 n t ty)) ∧ Below w.heap.size w w' := by
  rw [goodAtom_3]
  cases hty : ty.toList.isEmpty
  · go_enter Tryz.func60, Tryz.ntmps60
    go_wp2_with fail
    go_ret
    exact ⟨rfl, bAl (Below.refl _ _) _⟩
  cases hn : (n == 0)
  · go_enter Tryz.func60, Tryz.ntmps60
    go_wp2_with fail
    go_ret
    exact ⟨rfl, bAl (Below.refl _ _) _⟩
  by_cases h2 : (t.size : Int) ≤ 200
  · rw [show gText t = textL t from by unfold gText; rw [decide_eq_true (by omega)]; rfl]
    go_enter Tryz.func60, Tryz.ntmps60
    go_wp2_with (go_at_call 85; refine (l1Printed_any _ ht _).mono ?_; rintro e w' ⟨rfl, rfl⟩)
    go_ret
    exact ⟨rfl, bAl (Below.refl _ _) _⟩
  · rw [show gText t = false from by unfold gText; rw [decide_eq_false (by omega)]; rfl]
    have h3 : decide ((t.size : Int) ≤ 200) = false := by simpa using h2
    go_enter Tryz.func60, Tryz.ntmps60
    go_wp2_with fail
    go_ret
    exact ⟨rfl, bAl (Below.refl _ _) _⟩

theorem isEmpty_small {t : ByteArray} (h : t.size < 1) : t.toList.isEmpty = true := by
  obtain rfl : t = ByteArray.empty := ByteArray.ext (Array.eq_empty_of_size_eq_zero (by show t.size = 0; omega))
  rw [← decide_eq_emptyBytes]; simp

set_option maxHeartbeats 1000000 in
theorem sGoodAtom_4 (n : Int) (t ty : ByteArray) (w : World) (ht : t.size ≤ maxLen) (hty : ty.size ≤ maxLen) :
    Calls Tryz.prog 60 #[.agg #[.int .i64 4, .int .i64 n, .string t, .string ty]] w fun e w' => e = .returned (.bool (goodAtom 4 n t ty)) ∧ Below w.heap.size w w' := by
  rw [goodAtom_4]
  cases hn : (n == 0)
  · go_enter Tryz.func60, Tryz.ntmps60
    go_wp2_with fail
    go_ret
    exact ⟨rfl, bAl (Below.refl _ _) _⟩
  cases hg : goodName ty
  · have HG := hide hg
    clear hg
    go_enter Tryz.func60, Tryz.ntmps60
    go_wp2_with (go_at_call 59; refine (sGoodName_any _ hty _).mono ?_; rintro e w' ⟨rfl, rfl⟩; rw [unhide HG])
    go_ret
    exact ⟨rfl, bAl (Below.refl _ _) _⟩
  have HG := hide hg
  clear hg
  by_cases h1 : t.size < 1
  · rw [isEmpty_small h1]
    have d1 : decide (1 ≤ (t.size : Int)) = false := by simp; omega
    go_enter Tryz.func60, Tryz.ntmps60
    go_wp2_with (go_at_call 59; refine (sGoodName_any _ hty _).mono ?_; rintro e w' ⟨rfl, rfl⟩; rw [unhide HG])
    go_ret
    exact ⟨rfl, bAl (Below.refl _ _) _⟩
  rw [isEmpty_of h1]
  by_cases h2 : (t.size : Int) ≤ 200
  · rw [show gText t = textL t from by unfold gText; rw [decide_eq_true (by omega)]; rfl]
    go_enter Tryz.func60, Tryz.ntmps60
    go_wp2_with (first | (go_at_call 59; refine (sGoodName_any _ hty _).mono ?_; rintro e w' ⟨rfl, rfl⟩; rw [unhide HG]) | (go_at_call 85; refine (l1Printed_any _ ht _).mono ?_; rintro e w' ⟨rfl, rfl⟩))
    go_ret
    exact ⟨rfl, bAl (Below.refl _ _) _⟩
  · rw [show gText t = false from by unfold gText; rw [decide_eq_false (by omega)]; rfl]
    have h3 : decide ((t.size : Int) ≤ 200) = false := by simpa using h2
    go_enter Tryz.func60, Tryz.ntmps60
    go_wp2_with (go_at_call 59; refine (sGoodName_any _ hty _).mono ?_; rintro e w' ⟨rfl, rfl⟩; rw [unhide HG])
    go_ret
    exact ⟨rfl, bAl (Below.refl _ _) _⟩

/-- The numbers of a block as the model looks at them. -/
theorem blockB_yes {n : Int} (h0 : 0 ≤ n) (h1 : n / 64 ≤ 4294967295) (h2 : n % 64 ≤ 32) : blockB n = ((n / 64) % pw (32 - n % 64).toNat == 0) := by
  unfold blockB
  rw [decide_eq_true h0, decide_eq_true h2, decide_eq_true (p := n / 64 < 4294967296) (by omega)]; simp
theorem blockB_no {n : Int} (h : n < 0 ∨ 4294967295 < n / 64 ∨ 32 < n % 64) : blockB n = false := by
  unfold blockB
  rcases h with h | h | h
  · rw [decide_eq_false (p := 0 ≤ n) (by omega)]; simp
  · rw [decide_eq_false (p := n / 64 < 4294967296) (by omega)]; simp
  · rw [decide_eq_false (p := n % 64 ≤ 32) (by omega)]; simp

theorem l1Pow2_32 (w : World) : Calls Tryz.prog 86 #[.int .i64 32] w fun e w' => e = .returned (.int .i64 4294967296) ∧ w = w' := by
  have := l1Pow2_any 32 w (by omega) (by omega)
  rw [show ((32 : Int).toNat) = 32 from rfl, pw_32] at this
  exact this

set_option maxHeartbeats 1000000 in
theorem sGoodAtom_6 (n : Int) (t ty : ByteArray) (w : World) (h9 : n ≤ 9223372036854775807) :
    Calls Tryz.prog 60 #[.agg #[.int .i64 6, .int .i64 n, .string t, .string ty]] w fun e w' => e = .returned (.bool (goodAtom 6 n t ty)) ∧ Below w.heap.size w w' := by
  rw [goodAtom_plain (by omega), show numB 6 n = blockB n from rfl]
  cases ht : t.toList.isEmpty
  · cases hty : ty.toList.isEmpty
    all_goals
      go_enter Tryz.func60, Tryz.ntmps60
      go_wp2_with fail
      go_ret
      exact ⟨rfl, bAl (Below.refl _ _) _⟩
  cases hty : ty.toList.isEmpty
  · go_enter Tryz.func60, Tryz.ntmps60
    go_wp2_with fail
    go_ret
    exact ⟨rfl, bAl (Below.refl _ _) _⟩
  by_cases h0 : n < 0
  · rw [blockB_no (.inl h0)]
    have d0 : decide (n < 0) = true := by simpa using h0
    go_enter Tryz.func60, Tryz.ntmps60
    go_wp2_with fail
    go_quiet (fail)
    go_wp2_with fail
    go_ret
    exact ⟨rfl, below_drewN (bAl (Below.refl _ _) _) _⟩
  have d0 : decide (n < 0) = false := by simpa using h0
  have e1 : n.tmod 64 = n % 64 := Int.tmod_eq_emod_of_nonneg (by omega)
  have e2 : n.tdiv 64 = n / 64 := Int.tdiv_eq_ediv_of_nonneg (by omega)
  have e4 : IntKind.i64.wrap (n / 64) = n / 64 := by rw [IntKind.wrap_i64]; omega
  have e5 : IntKind.i64.wrap (4294967296 - 1) = 4294967295 := by rw [IntKind.wrap_i64]; omega
  have hc := hide l1Pow2_32
  by_cases h1 : 4294967295 < n / 64
  · rw [blockB_no (.inr (.inl h1))]
    have d1 : decide (4294967295 < n / 64) = true := by simpa using h1
    go_enter Tryz.func60, Tryz.ntmps60
    go_wp2_with fail
    go_quiet ((go_at_call 86; exact quiet_same (unhide hc _)))
    go_wp2_with fail
    go_ret
    exact ⟨rfl, below_drewN (bAl (Below.refl _ _) _) _⟩
  have d1 : decide (4294967295 < n / 64) = false := by simpa using h1
  by_cases h2 : 32 < n % 64
  · rw [blockB_no (.inr (.inr h2))]
    have d2 : decide (32 < n % 64) = true := by simpa using h2
    go_enter Tryz.func60, Tryz.ntmps60
    go_wp2_with fail
    go_quiet ((go_at_call 86; exact quiet_same (unhide hc _)))
    go_wp2_with fail
    go_ret
    exact ⟨rfl, below_drewN (bAl (Below.refl _ _) _) _⟩
  have d2 : decide (32 < n % 64) = false := by simpa using h2
  rw [blockB_yes (by omega) (by omega) (by omega)]
  have hB := hide (fun w => l1Block_any 6 n t ty w (by omega) h9 (by omega))
  have hp := pw_pos (32 - n % 64).toNat
  have e6 : (n / 64).tmod (pw (32 - n % 64).toNat) = (n / 64) % pw (32 - n % 64).toNat := Int.tmod_eq_emod_of_nonneg (by omega)
  go_enter Tryz.func60, Tryz.ntmps60
  go_wp2_with fail
  go_quiet ((go_at_call 86; exact quiet_same (unhide hc _)))
  go_wp2_with fail
  refine (unhide hB _).mono ?_
  rintro e w' ⟨rfl, hb⟩
  go_wp2_with fail
  go_ret
  exact ⟨rfl, bTr (below_drewN (bAl (Below.refl _ _) _) _) hb⟩

theorem sGoodAtom_else (k n : Int) (t ty : ByteArray) (w : World) (h1 : ¬ k = 1) (h2 : ¬ k = 2) (h3 : ¬ k = 3) (h4 : ¬ k = 4) (h5 : ¬ k = 5) (h6 : ¬ k = 6) (h7 : ¬ k = 7) :
    Calls Tryz.prog 60 #[.agg #[.int .i64 k, .int .i64 n, .string t, .string ty]] w fun e w' => e = .returned (.bool (goodAtom k n t ty)) ∧ Below w.heap.size w w' := by
  rw [goodAtom_else h1 h2 h3 h4 h5 h6 h7]
  have t1 : (k == 1) = false := by simpa using h1
  have t2 : (k == 2) = false := by simpa using h2
  have t3 : (k == 3) = false := by simpa using h3
  have t4 : (k == 4) = false := by simpa using h4
  have t5 : (k == 5) = false := by simpa using h5
  have t6 : (k == 6) = false := by simpa using h6
  have t7 : (k == 7) = false := by simpa using h7
  have u3 : (k != 3) = true := by simp [bne, t3]
  have u4 : (k != 4) = true := by simp [bne, t4]
  clear h1 h2 h3 h4 h5 h6 h7
  cases ht : t.toList.isEmpty <;> cases hty : ty.toList.isEmpty
  all_goals
    go_enter Tryz.func60, Tryz.ntmps60
    go_wp2
    all_goals go_ret
    all_goals exact ⟨rfl, bAl (Below.refl _ _) _⟩
end Go.Proofs.YtdflnjjomljgmaaGreatDoor
/- GoodAtom of both, at every atom; laws.szAtom (21), laws.toAtom (22). -/
namespace Go.Proofs.YtdflnjjomljgmaaGreatDoor
open Go.RowKit

theorem iGoodAtom_any (k n : Int) (t ty : ByteArray) (w : World) (h9 : n ≤ 9223372036854775807) (ht : t.size ≤ maxLen) (hty : ty.size ≤ maxLen) :
    Calls Tryz.prog 77 #[.agg #[.int .i64 k, .int .i64 n, .string t, .string ty]] w fun e w' => e = .returned (.bool (goodAtom k n t ty)) ∧ Below w.heap.size w w' := by
  by_cases h3 : k = 3
  · subst h3; exact iGoodAtom_3 n t ty w ht
  by_cases h4 : k = 4
  · subst h4; exact iGoodAtom_4 n t ty w ht hty
  by_cases h : k = 1 ∨ k = 2 ∨ k = 5 ∨ k = 6 ∨ k = 7
  · exact iGoodAtom_plain k n h t ty w h9
  · exact iGoodAtom_else k n t ty w (by omega) (by omega) h3 h4 (by omega) (by omega) (by omega)

theorem sGoodAtom_any (k n : Int) (t ty : ByteArray) (w : World) (h9 : n ≤ 9223372036854775807) (ht : t.size ≤ maxLen) (hty : ty.size ≤ maxLen) :
    Calls Tryz.prog 60 #[.agg #[.int .i64 k, .int .i64 n, .string t, .string ty]] w fun e w' => e = .returned (.bool (goodAtom k n t ty)) ∧ Below w.heap.size w w' := by
  by_cases h3 : k = 3
  · subst h3; exact sGoodAtom_3 n t ty w ht
  by_cases h4 : k = 4
  · subst h4; exact sGoodAtom_4 n t ty w ht hty
  by_cases h6 : k = 6
  · subst h6; exact sGoodAtom_6 n t ty w h9
  by_cases h : k = 1 ∨ k = 2 ∨ k = 5 ∨ k = 7
  · exact sGoodAtom_plain k n h t ty w
  · exact sGoodAtom_else k n t ty w (by omega) (by omega) h3 h4 (by omega) h6 (by omega)

theorem szAtom_any (k n l : Int) (t ty : ByteArray) (w : World) (h0 : 0 ≤ l) (h1 : l ≤ 1048576) (ht : t.size ≤ maxLen) (hty : ty.size ≤ maxLen) :
    Calls Tryz.prog 16 #[.agg #[.int .i64 k, .int .i64 n, .string t, .string ty], .int .i64 l] w fun e w' => (∃ m : Int, -1 ≤ m ∧ m ≤ l ∧ e = .returned (.int .i64 m)) ∧ Below w.heap.size w w' := by
  unfold maxLen at ht hty
  go_enter Tryz.func16, Tryz.ntmps16
  go_wp2
  all_goals go_ret
  all_goals exact ⟨⟨_, by omega, by omega, rfl⟩, bAl (Below.refl _ _) _⟩

theorem toAtom_any (k n : Int) (t ty : ByteArray) (w : World) :
    Calls Tryz.prog 26 #[.agg #[.int .i64 k, .int .i64 n, .string t, .string ty]] w fun e w' => e = .returned (.agg #[.int .i64 k, .int .i64 n, .string t, .string ty]) ∧ Below w.heap.size w w' := by
  go_enter Tryz.func26, Tryz.ntmps26
  go_wp2
  exact bodyPost_ret (v := .agg #[.int .i64 k, .int .i64 n, .string t, .string ty]) (by simp [results, Tryz.results26, go_sem]) rfl ⟨rfl, bAl (bAl (bAl (Below.refl _ _) _) _) _⟩
end Go.Proofs.YtdflnjjomljgmaaGreatDoor
