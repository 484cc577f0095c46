/- NUMBERS: spec.l1Pow2 (39), impl.block.size (36), impl.blockOf (35), spec.l1Block (37); texts: spec.l1Printed (38), impl.goodText (51). -/
import Derived.Test.YtdhpfhpegaekpaaDoorQText
import Derived.Deep.QuietTactic
import Derived.BigQuiet
namespace Go.Proofs.YtdhpfhpegaekpaaDoor
open Go.RowKit

def pw (k : Nat) : Int := 2 ^ k
theorem pw_zero : pw 0 = 1 := rfl
theorem pw_succ (k : Nat) : pw (k + 1) = pw k * 2 := by unfold pw; rw [Int.pow_succ]
theorem pw_pos (k : Nat) : 1 ≤ pw k := by
  induction k with
  | zero => simp [pw_zero]
  | succ k ih => rw [pw_succ]; omega
theorem pw_mono {a b : Nat} (h : a ≤ b) : pw a ≤ pw b := by
  induction b with
  | zero => simp at h; subst h; exact Int.le_refl _
  | succ b ih =>
    by_cases e : a = b + 1
    · subst e; exact Int.le_refl _
    · have := ih (by omega); have := pw_pos b; rw [pw_succ]; omega
theorem pw_32 : pw 32 = 4294967296 := by decide
theorem pw_le {k : Nat} (h : k ≤ 32) : pw k ≤ 4294967296 := by rw [← pw_32]; exact pw_mono h

theorem ret_int {k : IntKind} {a b : Int} (h : a = b) : Ending.returned (.int k a) = .returned (.int k b) := by rw [h]

theorem wrap_pw {k : Nat} (h : k ≤ 32) : wrap64 (2 ^ k) = pw k := by
  have h1 := pw_le h
  have h2 := pw_pos k
  show wrap64 (pw k) = pw k
  simp only [wrap64]; omega

end Go.Proofs.YtdhpfhpegaekpaaDoor
