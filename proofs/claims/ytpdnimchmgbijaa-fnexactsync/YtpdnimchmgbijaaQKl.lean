/- What reads as a key's cell. -/
import Derived.Test.YtpdnimchmgbijaaQMapS
namespace Go.Proofs.Ytpdnimchmgbijaa
open Go.RowKit Go.Maps

set_option maxRecDepth 100000 in
theorem lits_int {m : Nat} {c : Value} {l : List Lit} (h : Try.prog.keyLits m 3 [c] = some l) : ∃ z, c = .int .i64 z ∧ okI z := by
  cases m with
  | zero => simp [Program.keyLits] at h
  | succ m =>
    unfold Program.keyLits at h
    rw [Try.underlying3] at h
    cases c <;> simp at h
    obtain ⟨⟨rfl, hw⟩, _⟩ := h
    exact ⟨_, rfl, hw⟩
set_option maxRecDepth 100000 in
theorem lits_str {m : Nat} {c : Value} {l : List Lit} (h : Try.prog.keyLits m 9 [c] = some l) : ∃ z, c = .string z ∧ z.size ≤ maxLen := by
  cases m with
  | zero => simp [Program.keyLits] at h
  | succ m =>
    unfold Program.keyLits at h
    rw [Try.underlying9] at h
    cases c <;> simp at h
    exact ⟨_, rfl, h.1⟩
end Go.Proofs.Ytpdnimchmgbijaa
