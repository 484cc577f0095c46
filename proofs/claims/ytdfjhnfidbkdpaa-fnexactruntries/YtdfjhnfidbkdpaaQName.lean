/- NAMES: spec.GoodName, impl.GoodName. -/
import Derived.Test.YtdfjhnfidbkdpaaQLeaf
import Derived.Laws.IdiomStrings
import Derived.Laws.Closers25
namespace Go.Proofs.Ytdfjhnfidbkdpaa
open Go.RowKit

theorem digB_getD (s : ByteArray) (h : 0 < s.size) : ((s.data.toList[0]?.getD 0).toNat : Int) = (s[0].toNat : Int) := by
  have : s.data.toList[0]? = some s[0] := by
    rw [List.getElem?_eq_getElem (by simpa using h)]; rfl
  rw [this]; rfl

theorem goodName_of {s : ByteArray} (h1 : 1 ≤ s.size) (h2 : s.size ≤ 30) : goodName s = (!digB (s[0].toNat : Int) && s.data.toList.all okcB) := by
  have e1 : s.data.toList.length = s.size := by simp
  unfold goodName nameL
  rw [e1, digB_getD s (by omega), decide_eq_true h1, decide_eq_true h2]; simp

theorem goodName_size {s : ByteArray} (h : s.size < 1 ∨ 30 < s.size) : goodName s = false := by
  have e1 : s.data.toList.length = s.size := by simp
  unfold goodName nameL
  rw [e1]
  rcases h with h | h
  · rw [decide_eq_false (by omega)]; simp
  · rw [decide_eq_false (p := s.size ≤ 30) (by omega)]; simp

theorem isEmpty_of {s : ByteArray} (h : ¬ s.size < 1) : s.toList.isEmpty = false := by
  rw [← decide_eq_emptyBytes]
  simp only [decide_eq_false_iff_not]
  intro e; subst e; exact h (by decide)

end Go.Proofs.Ytdfjhnfidbkdpaa
