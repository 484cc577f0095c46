/- PLAIN: blocks in blocks. -/
import Derived.Test.YthbakjnojjkmmaaAddr
namespace Go.Proofs.Ythbakjnojjkmmaa
open Go.RowKit

theorem empty_of {t : ByteArray} (h : t.toList.isEmpty = true) : t = ⟨#[]⟩ := by
  by_cases h1 : t.size < 1
  · exact ByteArray.ext (Array.eq_empty_of_size_eq_zero (by show t.size = 0; omega))
  · rw [isEmpty_of h1] at h; cases h
theorem isBlk_empty {k n : Int} {t ty : ByteArray} (h : isBlk k n t ty = true) : t = ⟨#[]⟩ ∧ ty = ⟨#[]⟩ := by
  unfold isBlk at h
  simp only [Bool.and_eq_true, beq_iff_eq] at h
  obtain ⟨rfl, h⟩ := h
  rw [goodAtom_plain (by omega)] at h
  simp only [Bool.and_eq_true] at h
  exact ⟨empty_of h.1.1, empty_of h.1.2⟩
theorem pw_lt {a b : Nat} (h : a < b) : pw a < pw b := by
  have h1 := pw_mono (show a + 1 ≤ b from h)
  have h2 := pw_pos a
  rw [pw_succ] at h1
  omega
theorem pw_inj {a b : Nat} (h : pw a = pw b) : a = b := by
  rcases Nat.lt_trichotomy a b with c | c | c
  · have := pw_lt c; omega
  · exact c
  · have := pw_lt c; omega
theorem addrIn_self (x n : Int) (t y : ByteArray) : addrInB x n t y x n t y = isBlk x n t y := by
  unfold addrInB; cases isBlk x n t y <;> simp
theorem addrIn_iff {x n x' n' : Int} {t y t' y' : ByteArray} : addrInB x n t y x' n' t' y' = true ↔ (isBlk x n t y = true ∧ isBlk x' n' t' y' = true ∧ n' / 64 ≤ n / 64 ∧ n / 64 + pw (32 - n % 64).toNat ≤ n' / 64 + pw (32 - n' % 64).toNat) := by
  unfold addrInB
  simp only [Bool.and_eq_true, decide_eq_true_eq]
theorem addrIn_anti {x n x' n' : Int} {t y t' y' : ByteArray} (h : addrInB x n t y x' n' t' y' = true) (k : addrInB x' n' t' y' x n t y = true) : x = x' ∧ n = n' ∧ t = t' ∧ y = y' := by
  obtain ⟨a, b, c, d⟩ := addrIn_iff.1 h
  obtain ⟨_, _, e, f⟩ := addrIn_iff.1 k
  obtain ⟨rfl, a0, a1, _⟩ := isBlk_bounds a
  obtain ⟨rfl, b0, b1, _⟩ := isBlk_bounds b
  obtain ⟨rfl, rfl⟩ := isBlk_empty a
  obtain ⟨rfl, rfl⟩ := isBlk_empty b
  have g := pw_inj (show pw (32 - n % 64).toNat = pw (32 - n' % 64).toNat by omega)
  exact ⟨rfl, by omega, rfl, rfl⟩
theorem addrIn_trans {x n x' n' x'' n'' : Int} {t y t' y' t'' y'' : ByteArray} (h : addrInB x n t y x' n' t' y' = true) (k : addrInB x' n' t' y' x'' n'' t'' y'' = true) : addrInB x n t y x'' n'' t'' y'' = true := by
  obtain ⟨a, _, c, d⟩ := addrIn_iff.1 h
  obtain ⟨_, b, e, f⟩ := addrIn_iff.1 k
  exact addrIn_iff.2 ⟨a, b, by omega, by omega⟩
end Go.Proofs.Ythbakjnojjkmmaa
