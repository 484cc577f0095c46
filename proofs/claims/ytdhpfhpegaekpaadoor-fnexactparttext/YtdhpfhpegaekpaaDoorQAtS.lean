/- spec.GoodAtom (14). -/
import Derived.Test.YtdhpfhpegaekpaaDoorQAtJ
namespace Go.Proofs.YtdhpfhpegaekpaaDoor
open Go.RowKit

theorem isEmpty_small {t : ByteArray} (h : t.size < 1) : t.toList.isEmpty = true := by
  obtain rfl : t = ByteArray.empty := ByteArray.ext (Array.eq_empty_of_size_eq_zero (by show t.size = 0; omega))
  rw [← decide_eq_emptyBytes]; simp

/-- The numbers of a block as the model looks at them. -/
theorem blockB_yes {n : Int} (h0 : 0 ≤ n) (h1 : n / 64 ≤ 4294967295) (h2 : n % 64 ≤ 32) : blockB n = ((n / 64) % pw (32 - n % 64).toNat == 0) := by
  unfold blockB
  rw [decide_eq_true h0, decide_eq_true h2, decide_eq_true (p := n / 64 < 4294967296) (by omega)]; simp
theorem blockB_no {n : Int} (h : n < 0 ∨ 4294967295 < n / 64 ∨ 32 < n % 64) : blockB n = false := by
  unfold blockB
  rcases h with h | h | h
  · rw [decide_eq_false (p := 0 ≤ n) (by omega)]; simp
  · rw [decide_eq_false (p := n / 64 < 4294967296) (by omega)]; simp
  · rw [decide_eq_false (p := n % 64 ≤ 32) (by omega)]; simp

end Go.Proofs.YtdhpfhpegaekpaaDoor
