/- What spec.l1Guess does to bytes: the rest of the lemmas. -/
import Derived.Test.YtijfgfdagfchiaaGreatDoorAPar
import Derived.Test.YtijfgfdagfchiaaGreatDoorARd
namespace Go.Proofs.YtijfgfdagfchiaaGreatDoor
open Go.RowKit
set_option maxRecDepth 20000

theorem ga_whole {l : List UInt8} {N : Int} (h0 : -9223372036854775808 ≤ N) (h1 : N ≤ 9223372036854775807) (e : l = Lib.itoa N) : GA l 2 N eB eB := by
  obtain ⟨c, r, ec, hc⟩ := itoa_cons N
  have hnc := itoa_nc N
  have nn := nc_not hc
  rw [e, ec]
  rw [ec] at hnc
  refine ga_num h0 h1 ⟨fun h => ?_, fun h => ?_⟩ nn.2.2.2.1 nn.2.2.2.2.1 (fun h => by rw [nn.2.2.2.2.2.2.2] at h; cases h) (fun h => (nc_not (hnc _ h)).2.1 rfl) (fun h => (nc_not (hnc _ h)).1 rfl) (fun n a b h => itoa_inj h0 h1 a b (by rw [ec, h]))
  · injection h with h; exact nn.2.2.2.2.2.1 h
  · injection h with h; exact nn.2.2.2.2.2.2.1 h

theorem ref_at {l : List UInt8} {k : Nat} (hk : k + 1 < l.length) (h1 : l[k] = 58) (hno : ∀ j (h : j + 1 < l.length), j < k → ¬ (l[j] = 58 ∧ l[j + 1] = 58)) {y t : List UInt8} (hy : (58 : UInt8) ∉ y) (e : l = y ++ 58 :: 58 :: quo t) : l.take k = y ∧ l.drop (k + 2) = quo t := by
  have hk2 : k = y.length := by
    apply Classical.byContradiction
    intro hne
    by_cases hlt : k < y.length
    · apply hy
      rw [← h1]
      subst e
      rw [List.getElem_append_left hlt]
      exact List.getElem_mem _
    · have hl : y.length + 1 < l.length := by rw [e]; simp [quo]
      refine hno y.length hl (by omega) ⟨?_, ?_⟩
      · subst e; simp
      · subst e; simp
  subst hk2
  subst e
  simp
theorem ref_no {l : List UInt8} {k : Nat} (hk : l.length ≤ k + 1) (hno : ∀ j (h : j + 1 < l.length), j < k → ¬ (l[j] = 58 ∧ l[j + 1] = 58)) (y t : List UInt8) : ¬ l = y ++ 58 :: 58 :: quo t := by
  intro e
  have hl : y.length + 1 < l.length := by rw [e]; simp [quo]
  refine hno y.length hl (by omega) ⟨?_, ?_⟩
  · subst e; simp
  · subst e; simp

/-- The parts so far. -/
def PI (l : List UInt8) (k f : Nat) (P : List (List UInt8)) : Prop := (k ≤ l.length ∧ f ≤ k ∧ P ++ sp (l.drop f) = sp l ∧ ∀ j (h : j < l.length), f ≤ j → j < k → sepB l[j] = false) ∨ (k = l.length + 1 ∧ P = sp l)
theorem pi_mid {l : List UInt8} {k f : Nat} (h : ∀ j (h : j < l.length), f ≤ j → j < k → sepB l[j] = false) : ∀ x ∈ (l.drop f).take (k - f), sepB x = false := by
  intro x hx
  obtain ⟨i, hi, rfl⟩ := List.getElem_of_mem hx
  rw [List.length_take, List.length_drop] at hi
  rw [List.getElem_take, List.getElem_drop]
  exact h (f + i) (by omega) (by omega) (by omega)
theorem PI.hit {l : List UInt8} {k f : Nat} {P : List (List UInt8)} (h : PI l k f P) (hk : k < l.length) (hs : sepB l[k] = true) : PI l (k + 1) (k + 1) (P ++ [(l.drop f).take (k - f)]) := by
  rcases h with ⟨_, h2, h3, h4⟩ | ⟨h1, _⟩
  · refine .inl ⟨by omega, Nat.le_refl _, ?_, fun j _ a b => by omega⟩
    have e : l.drop f = (l.drop f).take (k - f) ++ l[k] :: l.drop (k + 1) := by
      have e1 := List.take_append_drop (k - f) (l.drop f)
      rw [List.drop_drop, show f + (k - f) = k by omega, List.drop_eq_getElem_cons hk] at e1
      exact e1.symm
    rw [← h3, show sp (l.drop f) = (l.drop f).take (k - f) :: sp (l.drop (k + 1)) by rw [congrArg sp e]; exact sp_app _ _ _ (pi_mid h4) hs]
    simp
  · omega
theorem PI.miss {l : List UInt8} {k f : Nat} {P : List (List UInt8)} (h : PI l k f P) (hk : k < l.length) (hs : sepB l[k] = false) : PI l (k + 1) f P := by
  rcases h with ⟨_, h2, h3, h4⟩ | ⟨h1, _⟩
  · refine .inl ⟨by omega, by omega, h3, fun j hj a b => ?_⟩
    rcases Nat.lt_succ_iff_lt_or_eq.1 b with b | rfl
    · exact h4 j hj a b
    · exact hs
  · omega
theorem PI.last {l : List UInt8} {k f : Nat} {P : List (List UInt8)} (h : PI l k f P) (hk : k = l.length) : PI l (k + 1) (k + 1) (P ++ [(l.drop f).take (k - f)]) := by
  rcases h with ⟨_, h2, h3, h4⟩ | ⟨h1, _⟩
  · refine .inr ⟨by omega, ?_⟩
    have e : (l.drop f).take (k - f) = l.drop f := List.take_of_length_le (by rw [List.length_drop]; omega)
    have := pi_mid h4
    rw [e] at this
    rw [e, ← h3, sp_last _ this]
  · omega
theorem PI.le {l : List UInt8} {k f : Nat} {P : List (List UInt8)} (h : PI l k f P) (hk : k ≤ l.length) : f ≤ k := by
  rcases h with ⟨_, h2, _⟩ | ⟨h1, _⟩
  · exact h2
  · omega
theorem mid_bytes (s : ByteArray) (f k : Nat) : s.extract f k = ⟨((s.data.toList.drop f).take (k - f)).toArray⟩ := by
  apply ByteArray.ext
  apply Array.toList_inj.1
  simp [ByteArray.data_extract]

end Go.Proofs.YtijfgfdagfchiaaGreatDoor
