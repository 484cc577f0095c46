/- QNum, QAtI, one behind the other. -/
import Derived.Test.YthemcakenammdaaGreatDoorJ8
import Derived.Deep.QuietTactic
import Derived.BigQuiet
import Derived.Deep.RegionWith
/- NUMBERS: spec.l1Pow2 (39), impl.block.size (36), impl.blockOf (35), spec.l1Block (37); texts: spec.l1Printed (38), impl.goodText (51). -/
namespace Go.Proofs.YthemcakenammdaaGreatDoor
open Go.RowKit

def pw (k : Nat) : Int := 2 ^ k
theorem pw_zero : pw 0 = 1 := rfl
theorem pw_succ (k : Nat) : pw (k + 1) = pw k * 2 := by unfold pw; rw [Int.pow_succ]
theorem pw_pos (k : Nat) : 1 ≤ pw k := by
  induction k with
  | zero => simp [pw_zero]
  | succ k ih => rw [pw_succ]; omega
theorem pw_mono {a b : Nat} (h : a ≤ b) : pw a ≤ pw b := by
  induction b with
  | zero => simp at h; subst h; exact Int.le_refl _
  | succ b ih =>
    by_cases e : a = b + 1
    · subst e; exact Int.le_refl _
    · have := ih (by omega); have := pw_pos b; rw [pw_succ]; omega
theorem pw_32 : pw 32 = 4294967296 := by decide
theorem pw_le {k : Nat} (h : k ≤ 32) : pw k ≤ 4294967296 := by rw [← pw_32]; exact pw_mono h

theorem ret_int {k : IntKind} {a b : Int} (h : a = b) : Ending.returned (.int k a) = .returned (.int k b) := by rw [h]

theorem l1Pow2_any (n : Int) (w : World) (h0 : 0 ≤ n) (h1 : n ≤ 32) :
    Calls Tryz.prog 81 #[.int .i64 n] w fun e w' => e = .returned (.int .i64 (pw n.toNat)) ∧ w = w' := by
  obtain ⟨m, rfl⟩ := Int.eq_ofNat_of_zero_le h0
  rw [Int.toNat_natCast]
  go_enter Tryz.func81, Tryz.ntmps81
  go_wp2
  go_loop [3, 4] (fun o i => ∃ k : Nat, k ≤ m ∧ i = .int .i64 k ∧ o = .int .i64 (pw k)) (fun _ i => m - (intOf i).toNat)
  case atStart => exact ⟨0, Nat.zero_le _, rfl, rfl⟩
  case round =>
    obtain ⟨k, hk, rfl, rfl⟩ := hrel
    have hb := pw_le (k := k) (by omega)
    have hp := pw_pos k
    by_cases hlt : k < m
    · go_wp2
      exact ⟨⟨k + 1, by omega, by go_num, by rw [pw_succ]⟩, by simp [intOf]; omega⟩
    · go_wp2
      go_ret
      have e : k = m := by omega
      subst e
      exact ⟨rfl, rfl⟩

theorem wrap_pw {k : Nat} (h : k ≤ 32) : wrap64 (2 ^ k) = pw k := by
  have h1 := pw_le h
  have h2 := pw_pos k
  show wrap64 (pw k) = pw k
  simp only [wrap64]; omega

theorem size_any (f b : Int) (w : World) (h0 : 0 ≤ b) (h1 : b ≤ 32) :
    Calls Tryz.prog 114 #[.agg #[.int .i64 f, .int .i64 b]] w fun e w' => e = .returned (.int .i64 (pw (32 - b).toNat)) ∧ w' = w.alloc (.cells #[.int .i64 f, .int .i64 b] 84) := by
  go_enter Tryz.func114, Tryz.ntmps114
  go_wp2
  go_ret
  exact ⟨ret_int (wrap_pw (by omega)), rfl⟩

theorem blockOf_any (n : Int) (w : World) (h0 : 0 ≤ n) (h1 : n ≤ 9223372036854775807) :
    Calls Tryz.prog 73 #[.int .i64 n] w fun e w' => e = .returned (.agg #[.int .i64 (n / 64), .int .i64 (n % 64)]) ∧ w' = w.alloc (.cells #[.int .i64 (n / 64), .int .i64 (n % 64)] 84) := by
  go_enter Tryz.func73, Tryz.ntmps73
  go_wp2
  exact bodyPost_ret (v := .agg #[.int .i64 (n / 64), .int .i64 (n % 64)]) (by simp [results, Tryz.results73, go_sem]) rfl ⟨rfl, rfl⟩

theorem l1Block_any (k n : Int) (t ty : ByteArray) (w : World) (h0 : 0 ≤ n) (h1 : n ≤ 9223372036854775807) (h2 : n % 64 ≤ 32) :
    Calls Tryz.prog 63 #[.agg #[.int .i64 k, .int .i64 n, .string t, .string ty]] w fun e w' => e = .returned (.tuple #[.int .i64 (n / 64), .int .i64 (pw (32 - n % 64).toNat)]) ∧ Below w.heap.size w w' := by
  have e1 : n.tmod 64 = n % 64 := Int.tmod_eq_emod_of_nonneg h0
  have e2 : n.tdiv 64 = n / 64 := Int.tdiv_eq_ediv_of_nonneg h0
  have e3 : IntKind.i64.wrap (32 - n % 64) = 32 - n % 64 := by rw [IntKind.wrap_i64]; omega
  have e4 : IntKind.i64.wrap (n / 64) = n / 64 := by rw [IntKind.wrap_i64]; omega
  have hc := hide (fun w => l1Pow2_any (32 - n % 64) w (by omega) (by omega))
  go_enter Tryz.func63, Tryz.ntmps63
  go_wp2
  go_quiet ((go_at_call 81; exact quiet_same (unhide hc _)))
  go_wp2
  go_ret2
  exact ⟨rfl, below_drewN ((Below.refl _ _).alloc (Nat.le_refl _) _) _⟩

end Go.Proofs.YthemcakenammdaaGreatDoor
/- impl.goodBlock (70), impl.goodNum (50). -/
namespace Go.Proofs.YthemcakenammdaaGreatDoor
open Go.RowKit

/-- A block of addresses: first and bits in one number. -/
def blockB (n : Int) : Bool := decide (0 ≤ n) && (decide (n % 64 ≤ 32) && (decide (n / 64 < 4294967296) && ((n / 64) % pw (32 - n % 64).toNat == 0)))

set_option maxHeartbeats 400000 in
theorem goodBlock_any (n : Int) (w : World) (h9 : n ≤ 9223372036854775807) :
    Calls Tryz.prog 100 #[.int .i64 n] w fun e w' => e = .returned (.bool (blockB n)) ∧ Below w.heap.size w w' := by
  by_cases h0 : n < 0
  · have hb : blockB n = false := by unfold blockB; rw [decide_eq_false (p := 0 ≤ n) (by omega)]; rfl
    have H := hide hb
    clear hb
    go_enter Tryz.func100, Tryz.ntmps100
    go_wp2
    go_ret
    exact ⟨ret_bool (unhide H).symm, Below.refl _ _⟩
  have hn : (n < 0) = False := by simp; omega
  have hc := hide (fun w => blockOf_any n w (by omega) h9)
  by_cases h1 : n % 64 ≤ 32
  · by_cases h2 : n / 64 < 4294967296
    · have d1 : decide (n % 64 ≤ 32) = true := by simpa using h1
      have d2 : decide (n / 64 < 4294967296) = true := by simpa using h2
      have e1 : (n / 64).tmod (pw (32 - n % 64).toNat) = (n / 64) % pw (32 - n % 64).toNat := Int.tmod_eq_emod_of_nonneg (by omega)
      have hp := pw_pos (32 - n % 64).toNat
      have hs := hide (fun w => size_any (n / 64) (n % 64) w (by omega) (by omega))
      have hb : blockB n = ((n / 64) % pw (32 - n % 64).toNat == 0) := by unfold blockB; rw [d1, d2, decide_eq_true (p := 0 ≤ n) (by omega)]; simp
      have H := hide hb
      clear hb
      go_enter Tryz.func100, Tryz.ntmps100
      go_wp2_with (go_at_call 73; refine (unhide hc _).mono ?_; rintro e w' ⟨rfl, rfl⟩)
      go_region_with (go_at_call 114; refine (unhide hs _).mono ?_; rintro e w' ⟨rfl, rfl⟩)
      all_goals
        go_wp2
        go_ret
        refine ⟨ret_bool ?_, ?_⟩
        · rw [unhide H]
        · (repeat (first | exact Below.refl _ _ | refine below_drewN ?_ _ | refine Below.drew ?_ | refine bAl ?_ _))
    · have d1 : decide (n % 64 ≤ 32) = true := by simpa using h1
      have d2 : decide (n / 64 < 4294967296) = false := by simpa using h2
      have hb : blockB n = false := by unfold blockB; rw [d2]; simp
      have H := hide hb
      clear hb
      go_enter Tryz.func100, Tryz.ntmps100
      go_wp2_with (go_at_call 73; refine (unhide hc _).mono ?_; rintro e w' ⟨rfl, rfl⟩)
      go_quiet (fail)
      go_wp2
      go_ret
      exact ⟨ret_bool (unhide H).symm, below_drewN (((Below.refl _ _).alloc (Nat.le_refl _) _).alloc (by simp) _) _⟩
  · have d1 : decide (n % 64 ≤ 32) = false := by simpa using h1
    have hb : blockB n = false := by unfold blockB; rw [d1]; simp
    have H := hide hb
    clear hb
    go_enter Tryz.func100, Tryz.ntmps100
    go_wp2_with (go_at_call 73; refine (unhide hc _).mono ?_; rintro e w' ⟨rfl, rfl⟩)
    go_quiet (fail)
    go_wp2
    go_ret
    exact ⟨ret_bool (unhide H).symm, below_drewN (((Below.refl _ _).alloc (Nat.le_refl _) _).alloc (by simp) _) _⟩

def numB (k n : Int) : Bool := if k = 1 then n == 0 || n == 1 else if k = 6 then blockB n else if k = 7 then decide (-100000000000 ≤ n) && decide (n ≤ 100000000000) else true

theorem goodNum_any (k n : Int) (w : World) (h9 : n ≤ 9223372036854775807) :
    Calls Tryz.prog 84 #[.int .i64 k, .int .i64 n] w fun e w' => e = .returned (.bool (numB k n)) ∧ Below w.heap.size w w' := by
  unfold numB
  by_cases h1 : k = 1
  · subst h1
    rw [if_pos rfl]
    go_enter Tryz.func84, Tryz.ntmps84
    go_wp2
    all_goals go_ret
    all_goals exact ⟨ret_bool (by simp [*]), Below.refl _ _⟩
  rw [if_neg h1]
  have t1 : (k == 1) = false := by simpa using h1
  by_cases h2 : k = 6
  · subst h2
    rw [if_pos rfl]
    go_enter Tryz.func84, Tryz.ntmps84
    go_wp2_with (go_at_call 100; refine (goodBlock_any _ _ h9).mono ?_; rintro e w' ⟨rfl, hb⟩)
    go_ret
    exact ⟨rfl, hb⟩
  rw [if_neg h2]
  have t2 : (k == 6) = false := by simpa using h2
  by_cases h3 : k = 7
  · subst h3
    rw [if_pos rfl]
    go_enter Tryz.func84, Tryz.ntmps84
    go_wp2
    all_goals go_ret
    all_goals refine ⟨ret_bool ?_, Below.refl _ _⟩
    all_goals (rw [Bool.eq_iff_iff]; simp; try omega)
  rw [if_neg h3]
  have t3 : (k == 7) = false := by simpa using h3
  clear h1 h2 h3
  go_enter Tryz.func84, Tryz.ntmps84
  go_wp2
  go_ret
  exact ⟨rfl, Below.refl _ _⟩
end Go.Proofs.YthemcakenammdaaGreatDoor
