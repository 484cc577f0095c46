/- Maps with the names of the first k of a list. -/
import Derived.Test.YtobmdeoppbjjpaaHIa
import Derived.Test.YtobmdeoppbjjpaaGMap
namespace Go.Proofs.Ytobmdeoppbjjpaa.V
set_option linter.unusedSimpArgs false
open Go.RowKit Go.Maps

abbrev KStr (w : World) (b n : Nat) (m : ByteArray → Option Value) : Prop := KM Try.prog 9 Value.string w b n m
theorem rowGrown {w w' : World} {b : Nat} {C : Array Value} {T : TypeId} {row : Option Nat} (h : RowIs w b C T) (hg : w.grownBy w' row) (hne : some b ≠ row) : RowIs w' b C T := by
  have hl := h.lt
  unfold RowIs at *; rw [hg.block b hl hne]; exact h
/-- A map with the names of the first k, each with what is told of it. -/
def KG {E : Type} (nm : E → ByteArray) (c : E → Value) (w : World) (b k : Nat) (l : List E) : Prop := ∃ M, KStr w b k M ∧ (∀ s, (M s).isSome = true ↔ ∃ i, ∃ h : i < l.length, i < k ∧ nm l[i] = s) ∧ ∀ s v, M s = some v → ∃ i, ∃ h : i < l.length, i < k ∧ nm l[i] = s ∧ v = c l[i]
theorem KG.keep {E : Type} {nm : E → ByteArray} {c : E → Value} {w w' : World} {b k : Nat} {l : List E} (h : KG nm c w b k l) (hb : Below w.heap.size w w') : KG nm c w' b k l := by obtain ⟨M, h1, h2⟩ := h; exact ⟨M, h1.keepB hb h1.lt, h2⟩
theorem KG.kept {E : Type} {nm : E → ByteArray} {c : E → Value} {w w' : World} {b m k : Nat} {l : List E} (h : KG nm c w b k l) (hg : w.grownBy w' (some m)) (hne : b ≠ m) : KG nm c w' b k l := by obtain ⟨M, h1, h2⟩ := h; exact ⟨M, h1.kept hg (by simpa using hne), h2⟩
theorem KG.setCell {E : Type} {nm : E → ByteArray} {c : E → Value} {w : World} {b k : Nat} {l : List E} (h : KG nm c w b k l) (b' o' : Nat) (hne : b ≠ b') (u : Value) : KG nm c (w.setCell ⟨b', o', none⟩ u) b k l := by obtain ⟨M, h1, h2⟩ := h; exact ⟨M, h1.setCell b' o' hne u, h2⟩
theorem kg_step {E : Type} {nm : E → ByteArray} {c : E → Value} {M : ByteArray → Option Value} {l : List E} {k : Nat} (hk : k < l.length) (h : (∀ s, (M s).isSome = true ↔ ∃ i, ∃ h : i < l.length, i < k ∧ nm l[i] = s) ∧ ∀ s v, M s = some v → ∃ i, ∃ h : i < l.length, i < k ∧ nm l[i] = s ∧ v = c l[i]) :
    (∀ s, (updK M (nm l[k]) (c l[k]) s).isSome = true ↔ ∃ i, ∃ h : i < l.length, i < k + 1 ∧ nm l[i] = s) ∧ ∀ s v, updK M (nm l[k]) (c l[k]) s = some v → ∃ i, ∃ h : i < l.length, i < k + 1 ∧ nm l[i] = s ∧ v = c l[i] := by
  constructor
  · intro s
    unfold updK
    by_cases e : s = nm l[k]
    · rw [if_pos e]
      exact ⟨fun _ => ⟨k, hk, by omega, e.symm⟩, fun _ => rfl⟩
    · rw [if_neg e, h.1 s]
      constructor
      · rintro ⟨i, hi, h1, h2⟩; exact ⟨i, hi, by omega, h2⟩
      · rintro ⟨i, hi, h1, h2⟩
        refine ⟨i, hi, ?_, h2⟩
        rcases Nat.lt_or_ge i k with h3 | h3
        · exact h3
        · obtain rfl : i = k := by omega
          exact absurd h2.symm e
  · intro s v hv
    unfold updK at hv
    split at hv
    · rename_i e
      cases hv
      exact ⟨k, hk, by omega, e.symm, rfl⟩
    · obtain ⟨i, hi, h1, h2⟩ := h.2 s v hv
      exact ⟨i, hi, by omega, h2⟩
/-- What the map holds, told by the elements. -/
def KC {E : Type} (nm : E → ByteArray) (c : E → Value) (l : List E) (M : ByteArray → Option Value) (C : ByteArray → Option E) : Prop := ∀ s, M s = (C s).map c ∧ ((C s).isSome = true ↔ ∃ e ∈ l, nm e = s) ∧ ∀ e, C s = some e → e ∈ l ∧ nm e = s
theorem KG.told {E : Type} {nm : E → ByteArray} {c : E → Value} {w : World} {b : Nat} {l : List E} (h : KG nm c w b l.length l) : ∃ M C, KStr w b l.length M ∧ KC nm c l M C := by
  obtain ⟨M, h1, h2, h3⟩ := h
  have : ∀ s, ∃ o : Option E, M s = o.map c ∧ (o.isSome = true ↔ ∃ e ∈ l, nm e = s) ∧ ∀ e, o = some e → e ∈ l ∧ nm e = s := by
    intro s
    cases hm : M s with
    | none =>
      refine ⟨none, rfl, ⟨fun h => (by cases h), ?_⟩, fun e h => by cases h⟩
      rintro ⟨e, he, hs⟩
      obtain ⟨i, hi, rfl⟩ := List.getElem_of_mem he
      have := (h2 s).2 ⟨i, hi, hi, hs⟩
      rw [hm] at this; cases this
    | some v =>
      obtain ⟨i, hi, _, hs, rfl⟩ := h3 s v hm
      exact ⟨some l[i], rfl, ⟨fun _ => ⟨_, List.getElem_mem hi, hs⟩, fun _ => rfl⟩, fun e h => by cases h; exact ⟨List.getElem_mem hi, hs⟩⟩
  obtain ⟨C, hC⟩ := Classical.axiomOfChoice this
  exact ⟨M, C, h1, hC⟩
open Classical in
theorem nodup_le' {B : Type} : ∀ (xs ys : List B), xs.Nodup → (∀ x ∈ xs, x ∈ ys) → xs.length ≤ ys.length
  | [], _, _, _ => Nat.zero_le _
  | x :: xs, ys, h, hs => by
    have hx : x ∈ ys := hs x (List.mem_cons_self ..)
    have ih := nodup_le' xs (ys.erase x) (List.nodup_cons.1 h).2 (fun y hy => (List.mem_erase_of_ne (show y ≠ x from fun e => (List.nodup_cons.1 h).1 (by rw [← e]; exact hy))).2 (hs y (List.mem_cons_of_mem _ hy)))
    rw [List.length_erase_of_mem hx] at ih
    have : 0 < ys.length := List.length_pos_of_mem hx
    simp; omega
/-- The map has as many entries as there are names. -/
theorem KM.size_ge {w : World} {b n : Nat} {M : ByteArray → Option Value} {D : DataW Value} (ho : w.ownsMap Try.prog 9 hvR b n D) (hD : KD Try.prog 9 Value.string D M) (xs : List ByteArray) (hx : ∀ x ∈ xs, x.size ≤ maxLen ∧ (M x).isSome = true) (hn : xs.Nodup) : xs.length ≤ Maps.size D := by
  obtain ⟨es, rfl, _, _⟩ := ho.entries kStr.law
  let kf : ByteArray → Lit := fun x => (keyOf Try.prog 9 (Value.string x)).getD (.bool false)
  have hkf : ∀ x, x.size ≤ maxLen → keyOf Try.prog 9 (Value.string x) = some (kf x) := fun x hx => by
    obtain ⟨kl, h⟩ := kStr.key x hx
    show _ = some ((keyOf Try.prog 9 (Value.string x)).getD (.bool false))
    rw [h]; rfl
  have h1 : (xs.map kf).Nodup := by
    refine List.pairwise_map.2 (hn.imp_of_mem fun {x y} hx' hy' hne e => hne ?_)
    exact kStr.inj _ _ (kStr.law.inj (hkf x (hx x hx').1) (by rw [e]; exact hkf y (hx y hy').1))
  have h2 : ∀ kl ∈ xs.map kf, kl ∈ es.map (·.1) := fun kl hkl => by
    obtain ⟨x, hx', rfl⟩ := List.mem_map.1 hkl
    have h := (hD x (kf x) (hkf x (hx x hx').1)).1
    rw [(hx x hx').2, Maps.has_eq] at h
    obtain ⟨p, hp, hs⟩ := List.any_eq_true.1 h
    by_cases e : p.1 = kf x
    · rw [← e]; exact List.mem_map_of_mem hp
    · rw [Maps.sameKey_ne e] at hs; cases hs
  have := nodup_le' _ _ h1 h2
  simpa [Maps.size_eq] using this
end Go.Proofs.Ytobmdeoppbjjpaa.V
