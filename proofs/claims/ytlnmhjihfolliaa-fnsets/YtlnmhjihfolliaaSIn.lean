/- Insertion into a rising list of atoms: pure. -/
import Derived.Test.YtlnmhjihfolliaaSCm
namespace Go.Proofs.Ytlnmhjihfolliaa.V
open Go.RowKit

def insA (L : List AtomT) (s : AtomT) (j : Nat) : List AtomT := L.take j ++ s :: L.drop j
def shA (L : List AtomT) (s : AtomT) (m : Nat) : List AtomT := (L ++ [s]).take (m + 1) ++ L.drop m
theorem shA_len {L : List AtomT} {s : AtomT} {m : Nat} (h : m ≤ L.length) : (shA L s m).length = L.length + 1 := by
  unfold shA; simp; omega
theorem shA_start (L : List AtomT) (s : AtomT) : shA L s L.length = L ++ [s] := by
  unfold shA
  rw [List.drop_length, List.append_nil, List.take_of_length_le (by simp)]
theorem shA_pred {L : List AtomT} {s : AtomT} {m : Nat} (h : m < L.length) : (shA L s (m + 1))[m]'(by rw [shA_len (by omega)]; omega) = L[m] := by
  have : (shA L s (m + 1))[m]? = some L[m] := by
    unfold shA
    rw [List.getElem?_append_left (by simp; omega), List.getElem?_take, if_pos (by omega), List.getElem?_append_left h, List.getElem?_eq_getElem h]
  rw [List.getElem?_eq_getElem (by rw [shA_len (by omega)]; omega)] at this
  exact Option.some.inj this
theorem shA_step {L : List AtomT} {s : AtomT} {m : Nat} (h : m < L.length) : (shA L s (m + 1)).set (m + 1) L[m] = shA L s m := by
  unfold shA
  have e1 : ((L ++ [s]).take (m + 1 + 1)) = (L ++ [s]).take (m + 1) ++ [(L ++ [s])[m + 1]'(by simp; omega)] := List.take_succ_eq_append_getElem (by simp; omega)
  rw [e1, List.append_assoc, List.set_append_right _ _ (by simp; omega)]
  have e2 : ((L ++ [s]).take (m + 1)).length = m + 1 := by simp; omega
  rw [e2, Nat.sub_self, List.singleton_append, List.set_cons_zero, List.drop_eq_getElem_cons h]
theorem shA_end {L : List AtomT} {s : AtomT} {j : Nat} (h : j ≤ L.length) : (shA L s j).set j s = insA L s j := by
  unfold shA insA
  have e1 : ((L ++ [s]).take (j + 1)) = (L ++ [s]).take j ++ [(L ++ [s])[j]'(by simp; omega)] := List.take_succ_eq_append_getElem (by simp; omega)
  have e2 : ((L ++ [s]).take j).length = j := by simp; omega
  rw [e1, List.append_assoc, List.set_append_right _ _ (by omega), e2, Nat.sub_self, List.singleton_append, List.set_cons_zero, List.take_append_of_le_length h]
theorem insA_len {L : List AtomT} {s : AtomT} {j : Nat} (h : j ≤ L.length) : (insA L s j).length = L.length + 1 := by
  unfold insA; simp; omega
theorem insA_mem {L : List AtomT} {s : AtomT} {j : Nat} (x : AtomT) : x ∈ insA L s j ↔ x ∈ L ∨ x = s := by
  unfold insA
  rw [List.mem_append, List.mem_cons]
  have : x ∈ L ↔ x ∈ L.take j ∨ x ∈ L.drop j := by rw [← List.mem_append, List.take_append_drop]
  rw [this]
  constructor
  · rintro (h | h | h)
    · exact .inl (.inl h)
    · exact .inr h
    · exact .inl (.inr h)
  · rintro ((h | h) | h)
    · exact .inl h
    · exact .inr (.inr h)
    · exact .inr (.inl h)
/-- What comes of it: the set of one more. -/
theorem SetR.ins {l L : List AtomT} {s : AtomT} {j : Nat} (h : SetR l L) (hj : j ≤ L.length) (h1 : ∀ i (hi : i < L.length), j ≤ i → 0 < L[i].cmp s) (h2 : ∀ (h0 : 0 < j), (L[j - 1]'(by omega)).cmp s < 0) : SetR (l ++ [s]) (insA L s j) := by
  refine ⟨?_, fun x => by rw [insA_mem, List.mem_append, List.mem_singleton, h.mem]⟩
  unfold insA
  rw [List.pairwise_append, List.pairwise_cons]
  have hd : ∀ b ∈ L.drop j, s.cmp b < 0 := fun b hb => by
    obtain ⟨i, hi, rfl⟩ := List.getElem_of_mem hb
    rw [List.getElem_drop]
    exact (ord_A.anti _ _).2 (h1 _ _ (by omega))
  have ht : ∀ a ∈ L.take j, a.cmp s < 0 := fun a ha => by
    obtain ⟨i, hi, rfl⟩ := List.getElem_of_mem ha
    rw [List.length_take] at hi
    rw [List.getElem_take]
    have h0 := h2 (by omega)
    by_cases e : i = j - 1
    · subst e; exact h0
    · exact ord_A.tr _ _ _ (List.pairwise_iff_getElem.1 h.ris i (j - 1) (by omega) (by omega) (by omega)) h0
  refine ⟨List.Pairwise.sublist (List.take_sublist _ _) h.ris, ⟨hd, List.Pairwise.sublist (List.drop_sublist _ _) h.ris⟩, fun a ha b hb => ?_⟩
  rcases List.mem_cons.1 hb with rfl | hb
  · exact ht a ha
  · exact ord_A.tr _ _ _ (ht a ha) (hd b hb)
end Go.Proofs.Ytlnmhjihfolliaa.V
