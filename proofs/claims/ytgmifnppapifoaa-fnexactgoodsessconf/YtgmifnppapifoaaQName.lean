/- NAMES: spec.GoodName, impl.GoodName. -/
import Derived.Test.YtgmifnppapifoaaQLeaf
import Derived.Laws.IdiomStrings
import Derived.Laws.Closers25
namespace Go.Proofs.Ytgmifnppapifoaa
open Go.RowKit

theorem digB_getD (s : ByteArray) (h : 0 < s.size) : ((s.data.toList[0]?.getD 0).toNat : Int) = (s[0].toNat : Int) := by
  have : s.data.toList[0]? = some s[0] := by
    rw [List.getElem?_eq_getElem (by simpa using h)]; rfl
  rw [this]; rfl

theorem goodName_of {s : ByteArray} (h1 : 1 ≤ s.size) (h2 : s.size ≤ 30) : goodName s = (!digB (s[0].toNat : Int) && s.data.toList.all okcB) := by
  have e1 : s.data.toList.length = s.size := by simp
  unfold goodName nameL
  rw [e1, digB_getD s (by omega), decide_eq_true h1, decide_eq_true h2]; simp

theorem goodName_size {s : ByteArray} (h : s.size < 1 ∨ 30 < s.size) : goodName s = false := by
  have e1 : s.data.toList.length = s.size := by simp
  unfold goodName nameL
  rw [e1]
  rcases h with h | h
  · rw [decide_eq_false (by omega)]; simp
  · rw [decide_eq_false (p := s.size ≤ 30) (by omega)]; simp

theorem isEmpty_of {s : ByteArray} (h : ¬ s.size < 1) : s.toList.isEmpty = false := by
  rw [← decide_eq_emptyBytes]
  simp only [decide_eq_false_iff_not]
  intro e; subst e; exact h (by decide)

/-- '[]byte(s)': a new row of the call's own, its cells the bytes of s. -/
theorem conv_bytes (s : ByteArray) (w : World) : ∃ cap w1, (convert 9 22 (.string s)).run Try.prog w = .ok (.slice (some ⟨w.heap.size, 0, none⟩) s.size cap) w1 ∧ Below w.heap.size w w1 ∧
    ∀ j (h : j < s.size), w1.cell? ⟨w.heap.size, j, none⟩ = some (.int .u8 (s[j].toNat : Int)) := by
  refine ⟨_, _, run_bytes_of_string (P := Try.prog) w 9 22 5 s Try.underlying9 Try.underlying22 Try.underlying5, ((Below.refl _ _).drew).alloc (Nat.le_refl _) _, ?_⟩
  intro j h
  have h' : w.drew.heap.size = w.heap.size := rfl
  rw [← h', World.cell?_alloc_mark]
  unfold bytesRow
  rw [Array.getElem?_append_left (by simpa using h)]
  have h2 : j < s.data.size := h
  simp only [Array.getElem?_map, Array.getElem?_eq_getElem h2, Option.map_some]
  rfl

end Go.Proofs.Ytgmifnppapifoaa
