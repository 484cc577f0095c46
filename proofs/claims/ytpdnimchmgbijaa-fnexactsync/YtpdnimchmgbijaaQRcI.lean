/- impl.Receive. -/
import Derived.Test.YtpdnimchmgbijaaQRcP
namespace Go.Proofs.Ytpdnimchmgbijaa
open Go.RowKit Go.Maps

def RcG (l more : List DcT) : Prop := LogG l ∧ more.length ≤ 1000 ∧ more.all chB = true
def RP (l more r : List DcT) : Prop := (¬ RcG l more ∧ r = []) ∨ (RcG l more ∧ ((200 < (recv l more).length ∧ r = []) ∨ ((recv l more).length ≤ 200 ∧ r = recv l more)))
theorem RP.uniq {l more r r' : List DcT} (h : RP l more r) (h' : RP l more r') : r = r' := by
  rcases h with ⟨n, e⟩ | ⟨g, h⟩ <;> rcases h' with ⟨n', e'⟩ | ⟨g', h'⟩
  · exact e.trans e'.symm
  · exact absurd g' n
  · exact absurd g n'
  · rcases h with ⟨h1, e⟩ | ⟨h1, e⟩ <;> rcases h' with ⟨h2, e'⟩ | ⟨h2, e'⟩
    · exact e.trans e'.symm
    · omega
    · omega
    · exact e.trans e'.symm
theorem RP.len {l more r : List DcT} (h : RP l more r) : r.length ≤ 1000 := by
  rcases h with ⟨_, e⟩ | ⟨_, ⟨_, e⟩ | ⟨h, e⟩⟩
  · rw [e]; exact Nat.zero_le _
  · rw [e]; exact Nat.zero_le _
  · rw [e]; omega

theorem dcsV_len (l : List DcT) : (dcsV l).length = l.length * 9 := by
  induction l with
  | nil => rfl
  | cons c l ih => rw [show dcsV (c :: l) = dcL c ++ dcsV l by simp [dcsV], List.length_append, ih, show (dcL c).length = 9 from rfl, List.length_cons]; omega
theorem dcsV_one (l : List DcT) : ∀ u ∈ dcsV l, u.oneCell' = true := by
  intro u hu
  unfold dcsV at hu
  obtain ⟨c, _, hc⟩ := List.mem_flatMap.1 hu
  exact dcL_one c u hc
theorem dcsV_inv (l : List DcT) (j : Nat) (u : Value) (h : (dcsV l)[j]? = some u) : ∃ hi : j / 9 < l.length, (dcL (l[j / 9]'hi))[j % 9]? = some u := by
  have hj := (List.getElem?_eq_some_iff.1 h).1
  rw [dcsV_len] at hj
  have hi : j / 9 < l.length := by omega
  refine ⟨hi, ?_⟩
  have hm : j % 9 < (dcL (l[j / 9]'hi)).length := by show j % 9 < 9; omega
  have := dcsV_get l (j / 9) hi (j % 9) _ (List.getElem?_eq_getElem hm)
  rw [show j / 9 * 9 + j % 9 = j by omega, h] at this
  rw [List.getElem?_eq_getElem hm]
  exact this.symm
theorem slc_news {w : World} {ad : Addr} {len : Nat} {l : List DcT} (h : SlC w (some ad) len l) : ∀ j u, (dcsV l)[j]? = some u → w.cell? (ad.add j) = some u := by
  intro j u hu
  obtain ⟨hi, hv⟩ := dcsV_inv l j u hu
  obtain ⟨b, off, e, hr⟩ := h.at (k := j / 9) (by rw [h.1]; exact hi)
  cases e
  rw [addr_plus]
  have h9 : j % 9 < 9 := Nat.mod_lt _ (by omega)
  have ej : off + j = off + j / 9 * 9 + j % 9 := by omega
  rw [ej]
  have hc : j % 9 = 0 ∨ j % 9 = 1 ∨ j % 9 = 2 ∨ j % 9 = 3 ∨ j % 9 = 4 ∨ j % 9 = 5 ∨ j % 9 = 6 ∨ j % 9 = 7 ∨ j % 9 = 8 := by omega
  rcases hc with e | e | e | e | e | e | e | e | e <;> rw [e] at hv ⊢ <;> simp [dcL] at hv <;> subst hv
  · exact hr.c0 _ hi
  · exact hr.c1 _ hi
  · exact hr.c2 _ hi
  · exact hr.c3 _ hi
  · exact hr.c4 _ hi
  · exact hr.c5 _ hi
  · exact hr.c6 _ hi
  · exact hr.c7 _ hi
  · exact hr.c8 _ hi

end Go.Proofs.Ytpdnimchmgbijaa
