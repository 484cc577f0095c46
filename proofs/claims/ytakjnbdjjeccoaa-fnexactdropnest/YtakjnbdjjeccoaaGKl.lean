/- What reads as a key's cell. -/
import Derived.Test.YtakjnbdjjeccoaaGKeys
namespace Go.Proofs.Ytakjnbdjjeccoaa
open Go.RowKit Go.Maps

theorem mLaid : laidOutB Try.prog = true := by kernel_rfl
theorem pos_succ {n k : Nat} (h : k < n) : ∃ m, n = m + 1 := ⟨n - 1, by omega⟩
set_option maxRecDepth 100000 in
theorem lits_str {m : Nat} {c : Value} {l : List Lit} (h : Try.prog.keyLits m 9 [c] = some l) : ∃ z, c = .string z ∧ z.size ≤ maxLen := by
  cases m with
  | zero => simp [Program.keyLits] at h
  | succ m =>
    unfold Program.keyLits at h
    rw [Try.underlying9] at h
    cases c <;> simp at h
    exact ⟨_, rfl, h.1⟩
theorem key_nest (t o : Bs) (ht : t.size ≤ maxLen) (ho : o.size ≤ maxLen) : ∃ kl, keyOf Try.prog 42 (.agg #[.string t, .string o]) = some kl := by
  have mRow : (42 : TypeId) < Try.prog.types.size := of_decide_eq_true (by kernel_rfl)
  have hk : Try.prog.keyType 42 = true := by kernel_rfl
  have hc : Try.prog.cellsOf 42 = 2 := by kernel_rfl
  have h3 : Try.prog.cellsOf 9 = 1 := by kernel_rfl
  have hf : (Value.agg #[.string t, .string o]).formed Try.prog 42 = true := by simp [Value.formed, Try.underlying42, hc]
  obtain ⟨m, hm⟩ := pos_succ mRow
  unfold keyOf
  rw [Try.underlying42]
  simp only [hk, hf, Bool.and_self, if_true]
  rw [hm]
  unfold Program.keyLits
  rw [Try.underlying42]
  have e3 : ∀ z : Bs, z.size ≤ maxLen → ∃ lz, Try.prog.keyLits (m + 1) 9 [.string z] = some lz := by
    intro z hz
    unfold Program.keyLits
    rw [Try.underlying9]
    simp [hz]
  obtain ⟨l0, e0⟩ := e3 t ht
  obtain ⟨l1, e1⟩ := e3 o ho
  simp [Value.cells, hc, h3, e0, e1]
end Go.Proofs.Ytakjnbdjjeccoaa
