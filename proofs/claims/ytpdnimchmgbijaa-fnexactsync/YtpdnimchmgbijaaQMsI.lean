/- impl.Missing. -/
import Derived.Test.YtpdnimchmgbijaaQMsS
namespace Go.Proofs.Ytpdnimchmgbijaa
open Go.RowKit

theorem vecV_le (t o : Int) : ∀ (vec : List (Int × Int)) (tv : Int → Int), t ≤ vecV tv vec o ↔ (t ≤ tv o ∨ ∃ v ∈ vec, v.2 = o ∧ t ≤ v.1)
  | [], tv => by simp [vecV]
  | x :: vec, tv => by
    show t ≤ vecV (upd tv x.2 x.1) vec o ↔ _
    rw [vecV_le t o vec]
    by_cases e : o = x.2
    · subst e
      rw [upd_same]
      constructor
      · rintro (h | ⟨v, hv, h1, h2⟩)
        · by_cases h3 : t ≤ tv x.2
          · exact .inl h3
          · exact .inr ⟨x, by simp, rfl, by omega⟩
        · exact .inr ⟨v, by simp [hv], h1, h2⟩
      · rintro (h | ⟨v, hv, h1, h2⟩)
        · exact .inl (by omega)
        · rcases List.mem_cons.1 hv with rfl | hv
          · exact .inl (by omega)
          · exact .inr ⟨v, hv, h1, h2⟩
    · rw [upd_other tv e]
      constructor
      · rintro (h | ⟨v, hv, h1, h2⟩)
        · exact .inl h
        · exact .inr ⟨v, by simp [hv], h1, h2⟩
      · rintro (h | ⟨v, hv, h1, h2⟩)
        · exact .inl h
        · rcases List.mem_cons.1 hv with rfl | hv
          · exact absurd h1.symm e
          · exact .inr ⟨v, hv, h1, h2⟩
theorem filter_msg {l : List DcT} (hg : l.all chB = true) (vec : List (Int × Int)) : (l.filter fun c => decide (vecV (fun _ => 0) vec c.o < c.t)) = msg l vec := by
  unfold msg
  refine List.filter_congr fun c hc => ?_
  obtain ⟨i, hi, rfl⟩ := List.mem_iff_getElem.1 hc
  have hr := ch_range hg i hi
  have h := vecV_le l[i].t l[i].o vec (fun _ => 0)
  cases hk : knB vec l[i]
  · have : ¬ l[i].t ≤ vecV (fun _ => 0) vec l[i].o := fun hh => by
      rcases h.1 hh with h1 | ⟨v, hv, h1, h2⟩
      · omega
      · unfold knB at hk
        rw [List.any_eq_false] at hk
        exact hk v hv (by simp [h1, h2])
    simp; omega
  · have : l[i].t ≤ vecV (fun _ => 0) vec l[i].o := h.2 (.inr (by
      unfold knB at hk
      obtain ⟨v, hv, h1⟩ := List.any_eq_true.1 hk
      simp at h1
      exact ⟨v, hv, h1.1, h1.2⟩))
    simp; omega

end Go.Proofs.Ytpdnimchmgbijaa
