/- impl.NextStamp. -/
import Derived.Test.YtpdnimchmgbijaaQMapT
import Derived.Test.YtpdnimchmgbijaaQChG
namespace Go.Proofs.Ytpdnimchmgbijaa
open Go.RowKit Go.Maps

/-- One more than the greatest Time of the first k changes, 1 of none. -/
structure IsNx (l : List DcT) (k : Nat) (m : Int) : Prop where
  low : 1 ≤ m
  up : ∀ i (h : i < l.length), i < k → l[i].t < m
  one : m = 1 ∨ ∃ i, ∃ h : i < l.length, i < k ∧ m = l[i].t + 1
def NextP (l : List DcT) (who x y : Int) : Prop :=
  (¬ (LogG l ∧ 0 ≤ who ∧ who ≤ 99) ∧ x = 0 ∧ y = 0) ∨ ((LogG l ∧ 0 ≤ who ∧ who ≤ 99) ∧ ∃ m, IsNx l l.length m ∧ ((1000000000 < m ∧ x = 0 ∧ y = 0) ∨ (m ≤ 1000000000 ∧ x = m ∧ y = who)))

theorem ch_range {l : List DcT} (h : l.all chB = true) (i : Nat) (hi : i < l.length) : (1 ≤ l[i].t ∧ l[i].t ≤ 1000000000) ∧ 0 ≤ l[i].o ∧ l[i].o ≤ 99 := by
  have h1 := List.all_eq_true.1 h _ (List.getElem_mem hi)
  unfold chB stB at h1
  simp only [Bool.and_eq_true, decide_eq_true_eq] at h1
  omega
theorem IsNx.uniq {l : List DcT} {m m' : Int} (hg : l.all chB = true) (h : IsNx l l.length m) (h' : IsNx l l.length m') : m = m' := by
  rcases h.one with e | ⟨i, hi, _, e⟩
  · rcases h'.one with e' | ⟨j, hj, _, e'⟩
    · rw [e, e']
    · have := h.up j hj hj
      have := (ch_range hg j hj).1
      omega
  · rcases h'.one with e' | ⟨j, hj, _, e'⟩
    · have := h'.up i hi hi
      have := (ch_range hg i hi).1
      omega
    · have := h.up j hj hj
      have := h'.up i hi hi
      omega
theorem NextP.uniq {l : List DcT} {who x y x' y' : Int} (h : NextP l who x y) (h' : NextP l who x' y') : x = x' ∧ y = y' := by
  rcases h with ⟨n, rfl, rfl⟩ | ⟨g, m, hm, hx⟩
  · rcases h' with ⟨_, rfl, rfl⟩ | ⟨g', _⟩
    · exact ⟨rfl, rfl⟩
    · exact absurd g' n
  · rcases h' with ⟨n', _⟩ | ⟨_, m', hm', hx'⟩
    · exact absurd g n'
    · obtain rfl := hm.uniq g.1.2.1 hm'
      omega

theorem field_vec (x y : Value) (w : World) : (Instr.field 52 (.agg #[x, y]) 0).run Try.prog w = .ok x w := by
  kernel_rfl

end Go.Proofs.Ytpdnimchmgbijaa
