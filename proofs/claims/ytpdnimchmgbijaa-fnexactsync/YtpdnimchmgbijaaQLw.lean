/- What the exact laws' walks want: rows that are owned, held against each other, kept. -/
import Derived.Test.YtpdnimchmgbijaaQMkC
import Derived.Test.YtpdnimchmgbijaaQMkS
import Derived.Test.YtpdnimchmgbijaaQToC
namespace Go.Proofs.Ytpdnimchmgbijaa
open Go.RowKit

theorem own_ne {v u : Value} {A B : Nat} (h1 : ∀ g, v.ownBlock = some g → g < A) (h2 : ∀ g, u.ownBlock = some g → B ≤ g) (h : A ≤ B) : v.ownBlock = none ∨ v.ownBlock ≠ u.ownBlock := by
  cases hv : v.ownBlock with
  | none => exact .inl rfl
  | some g => exact .inr fun e => by have := h1 g hv; have := h2 g e.symm; omega
theorem row_grown {w w' : World} {b : Nat} {C : Array Value} {T : TypeId} {row : Option Nat} (h : RowIs w b C T) (hg : w.grownBy w' row) (hne : some b ≠ row) : RowIs w' b C T := by
  have hl := h.lt
  unfold RowIs at *; rw [hg.block b hl hne]; exact h

def dcsV (l : List DcT) : List Value := l.flatMap dcL
theorem dcsV_snoc (l : List DcT) (c : DcT) : dcsV (l ++ [c]) = dcsV l ++ dcL c := by simp [dcsV]
theorem dcsV_get : ∀ (l : List DcT) (i : Nat) (h : i < l.length) (j : Nat) (v : Value), (dcL l[i])[j]? = some v → (dcsV l)[i * 9 + j]? = some v
  | [], i, h, _, _, _ => absurd h (Nat.not_lt_zero _)
  | c :: l, 0, _, j, v, hv => by
    have hj := (List.getElem?_eq_some_iff.1 hv).1
    have e : dcsV (c :: l) = dcL c ++ dcsV l := by simp [dcsV]
    rw [e, List.getElem?_append_left (by simpa using hj)]
    simpa using hv
  | c :: l, i + 1, h, j, v, hv => by
    have e : dcsV (c :: l) = dcL c ++ dcsV l := by simp [dcsV]
    have hl : (dcL c).length = 9 := rfl
    rw [e, List.getElem?_append_right (by rw [hl]; omega), hl, show (i + 1) * 9 + j - 9 = i * 9 + j by omega]
    exact dcsV_get l i (by simpa using h) j v (by simpa using hv)
theorem own_dcs {w : World} {base : Nat} {v : Value} {l : List DcT} (h : w.ownsRow base 46 9 v l.length (dcsV l)) : ∃ a cap, v = .slice a l.length cap ∧ SlC w a l.length l := by
  rcases h.2 with ⟨rfl, e⟩ | ⟨g, cap, cur, rfl, _, hh, _, _, hsz, htk⟩
  · have : l = [] := List.length_eq_zero_iff.1 e
    subst this
    exact ⟨none, 0, rfl, rfl, .inl rfl⟩
  · have hr : RowIs w g cur 46 := hh
    have hc : ∀ i (hi : i < l.length) j u, (dcL l[i])[j]? = some u → w.cell? ⟨g, 0 + i * 9 + j, none⟩ = some u := fun i hi j u hu => by
      have hu2 := dcsV_get l i hi j u hu
      rw [← htk, List.getElem?_take] at hu2
      rw [Nat.zero_add, hr.cell, ← Array.getElem?_toList]
      split at hu2
      · exact hu2
      · cases hu2
    exact ⟨_, _, rfl, rfl, .inr ⟨g, 0, rfl, hr.lt, fun i hi => hc i hi 0 _ rfl, fun i hi => hc i hi 1 _ rfl, fun i hi => hc i hi 2 _ rfl, fun i hi => hc i hi 3 _ rfl, fun i hi => hc i hi 4 _ rfl, fun i hi => hc i hi 5 _ rfl, fun i hi => hc i hi 6 _ rfl, fun i hi => hc i hi 7 _ rfl, fun i hi => hc i hi 8 _ rfl⟩⟩

theorem eqOwnC {w : World} {b1 b2 : Nat} {v1 v2 : Value} {l : List DcT} (h1 : w.ownsRow b1 46 9 v1 l.length (dcsV l)) (h2 : w.ownsRow b2 46 9 v2 l.length (dcsV l)) (hl : l.length ≤ 1000) :
    Calls Try.prog 8 #[v1, v2] w fun e w' => e = .returned (.bool true) ∧ Below w.heap.size w w' := by
  obtain ⟨a1, c1, rfl, s1⟩ := own_dcs h1
  obtain ⟨a2, c2, rfl, s2⟩ := own_dcs h2
  exact eqDirChangeS_same a1 a2 l.length c1 l.length c2 l w s1 s2 (by unfold maxLen; omega)
end Go.Proofs.Ytpdnimchmgbijaa
