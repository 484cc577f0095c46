/- NUMBERS: spec.l1Pow2 (39), impl.block.size (36), impl.blockOf (35), spec.l1Block (37); texts: spec.l1Printed (38), impl.goodText (51). -/
import Derived.Test.YtfdfglblcgdoiaaDoorQText
import Derived.Deep.QuietTactic
import Derived.BigQuiet
namespace Go.Proofs.YtfdfglblcgdoiaaDoor
open Go.RowKit

def pw (k : Nat) : Int := 2 ^ k
theorem pw_zero : pw 0 = 1 := rfl
theorem pw_succ (k : Nat) : pw (k + 1) = pw k * 2 := by unfold pw; rw [Int.pow_succ]
theorem pw_pos (k : Nat) : 1 ≤ pw k := by
  induction k with
  | zero => simp [pw_zero]
  | succ k ih => rw [pw_succ]; omega
theorem pw_mono {a b : Nat} (h : a ≤ b) : pw a ≤ pw b := by
  induction b with
  | zero => simp at h; subst h; exact Int.le_refl _
  | succ b ih =>
    by_cases e : a = b + 1
    · subst e; exact Int.le_refl _
    · have := ih (by omega); have := pw_pos b; rw [pw_succ]; omega
theorem pw_32 : pw 32 = 4294967296 := by decide
theorem pw_le {k : Nat} (h : k ≤ 32) : pw k ≤ 4294967296 := by rw [← pw_32]; exact pw_mono h

theorem ret_int {k : IntKind} {a b : Int} (h : a = b) : Ending.returned (.int k a) = .returned (.int k b) := by rw [h]

theorem l1Pow2_any (n : Int) (w : World) (h0 : 0 ≤ n) (h1 : n ≤ 32) :
    Calls Tryd.prog 63 #[.int .i64 n] w fun e w' => e = .returned (.int .i64 (pw n.toNat)) ∧ w = w' := by
  obtain ⟨m, rfl⟩ := Int.eq_ofNat_of_zero_le h0
  rw [Int.toNat_natCast]
  go_enter Tryd.func63, Tryd.ntmps63
  go_wp2
  go_loop [3, 4] (fun o i => ∃ k : Nat, k ≤ m ∧ i = .int .i64 k ∧ o = .int .i64 (pw k)) (fun _ i => m - (intOf i).toNat)
  case atStart => exact ⟨0, Nat.zero_le _, rfl, rfl⟩
  case round =>
    obtain ⟨k, hk, rfl, rfl⟩ := hrel
    have hb := pw_le (k := k) (by omega)
    have hp := pw_pos k
    by_cases hlt : k < m
    · go_wp2
      exact ⟨⟨k + 1, by omega, by go_num, by rw [pw_succ]⟩, by simp [intOf]; omega⟩
    · go_wp2
      go_ret
      have e : k = m := by omega
      subst e
      exact ⟨rfl, rfl⟩

theorem wrap_pw {k : Nat} (h : k ≤ 32) : wrap64 (2 ^ k) = pw k := by
  have h1 := pw_le h
  have h2 := pw_pos k
  show wrap64 (pw k) = pw k
  simp only [wrap64]; omega

theorem size_any (f b : Int) (w : World) (h0 : 0 ≤ b) (h1 : b ≤ 32) :
    Calls Tryd.prog 81 #[.agg #[.int .i64 f, .int .i64 b]] w fun e w' => e = .returned (.int .i64 (pw (32 - b).toNat)) ∧ w' = w.alloc (.cells #[.int .i64 f, .int .i64 b] 92) := by
  go_enter Tryd.func81, Tryd.ntmps81
  go_wp2
  go_ret
  exact ⟨ret_int (wrap_pw (by omega)), rfl⟩

theorem blockOf_any (n : Int) (w : World) (h0 : 0 ≤ n) (h1 : n ≤ 9223372036854775807) :
    Calls Tryd.prog 72 #[.int .i64 n] w fun e w' => e = .returned (.agg #[.int .i64 (n / 64), .int .i64 (n % 64)]) ∧ w' = w.alloc (.cells #[.int .i64 (n / 64), .int .i64 (n % 64)] 92) := by
  go_enter Tryd.func72, Tryd.ntmps72
  go_wp2
  exact bodyPost_ret (v := .agg #[.int .i64 (n / 64), .int .i64 (n % 64)]) (by simp [results, Tryd.results72, go_sem]) rfl ⟨rfl, rfl⟩

theorem l1Block_any (k n : Int) (t ty : ByteArray) (w : World) (h0 : 0 ≤ n) (h1 : n ≤ 9223372036854775807) (h2 : n % 64 ≤ 32) :
    Calls Tryd.prog 49 #[.agg #[.int .i64 k, .int .i64 n, .string t, .string ty]] w fun e w' => e = .returned (.tuple #[.int .i64 (n / 64), .int .i64 (pw (32 - n % 64).toNat)]) ∧ Below w.heap.size w w' := by
  have e1 : n.tmod 64 = n % 64 := Int.tmod_eq_emod_of_nonneg h0
  have e2 : n.tdiv 64 = n / 64 := Int.tdiv_eq_ediv_of_nonneg h0
  have e3 : IntKind.i64.wrap (32 - n % 64) = 32 - n % 64 := by rw [IntKind.wrap_i64]; omega
  have e4 : IntKind.i64.wrap (n / 64) = n / 64 := by rw [IntKind.wrap_i64]; omega
  have hc := hide (fun w => l1Pow2_any (32 - n % 64) w (by omega) (by omega))
  go_enter Tryd.func49, Tryd.ntmps49
  go_wp2
  go_quiet ((go_at_call 63; exact quiet_same (unhide hc _)))
  go_wp2
  go_ret2
  exact ⟨rfl, below_drewN ((Below.refl _ _).alloc (Nat.le_refl _) _) _⟩

end Go.Proofs.YtfdfglblcgdoiaaDoor
