/- laws.eqIntS: rows of ints as answers. -/
import Derived.Test.YtjmpakpodhbbpaaKMi
namespace Go.Proofs.Ytjmpakpodhbbpaa
open Go.RowKit
abbrev intV (z : Int) : Value := .int .i64 z
theorem own_Int {w : World} {base : Nat} {v : Value} {l : List Int} (h : w.ownsRow base 3 1 v l.length (l.map intV)) : ∃ a cap, v = .slice a l.length cap ∧ (l = [] ∨ ∃ b, a = some ⟨b, 0, none⟩ ∧ b < w.heap.size ∧ ∀ i (hi : i < l.length), w.cell? ⟨b, i, none⟩ = some (.int .i64 l[i])) := by
  rcases h.2 with ⟨rfl, e⟩ | ⟨g, cap, cur, rfl, _, hh, _, _, hsz, htk⟩
  · have : l = [] := List.length_eq_zero_iff.1 e
    subst this
    exact ⟨none, 0, rfl, .inl rfl⟩
  · have hr : RowIs w g cur 3 := hh
    refine ⟨_, _, rfl, .inr ⟨g, rfl, hr.lt, fun i hi => ?_⟩⟩
    have hu : (l.map intV)[i]? = some (.int .i64 l[i]) := by simp [hi]
    rw [← htk, List.getElem?_take] at hu
    rw [hr.cell, ← Array.getElem?_toList]
    split at hu
    · exact hu
    · cases hu
end Go.Proofs.Ytjmpakpodhbbpaa
