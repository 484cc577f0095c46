/- WCmp, WValS, one behind the other. -/
import Derived.Test.YtkgneiideibfjaaGreatDoorJ15
import Derived.Test.YtkgneiideibfjaaGreatDoorJ6
import Derived.Test.YtkgneiideibfjaaGreatDoorJ3
import Derived.Test.YtkgneiideibfjaaGreatDoorJ4
import Derived.Test.YtkgneiideibfjaaGreatDoorJ8
/- WCmp, ported from seat 1a. -/
namespace Go.Proofs.YtkgneiideibfjaaGreatDoor.V
open Go.RowKit

theorem bne_zero {c : Int} (h : ¬ c = 0) : (c != 0) = true := by simpa using h

def orFrom (v0 v1 v2 v3 : Int) : Nat → Int
  | 0 => orI v0 (orI v1 (orI v2 v3))
  | 1 => orI v1 (orI v2 v3)
  | 2 => orI v2 v3
  | 3 => v3
  | _ => 0
theorem orI_zero (b : Int) : orI 0 b = b := by unfold orI; rw [if_pos rfl]
theorem orI_not {a : Int} (h : ¬ a = 0) (b : Int) : orI a b = a := by unfold orI; rw [if_neg h]

end Go.Proofs.YtkgneiideibfjaaGreatDoor.V
/- WValS, ported from seat 1a. -/
namespace Go.Proofs.YtkgneiideibfjaaGreatDoor.V
open Go.RowKit

def AtomT.good (a : AtomT) : Bool := goodAtom a.x a.n a.t a.y
def AtomT.cmp (a b : AtomT) : Int := cmpA a.x a.n a.t a.y b.x b.n b.t b.y
/-- The first k are good. -/
def AllA (l : List AtomT) (k : Nat) : Prop := ∀ i (h : i < l.length), i < k → l[i].good = true
/-- The first k rise. -/
def RisA (l : List AtomT) (k : Nat) : Prop := ∀ i (h : i < l.length), 0 < i → i < k → l[i - 1].cmp l[i] < 0
def AllN (l : List ByteArray) (k : Nat) : Prop := ∀ i (h : i < l.length), i < k → goodName l[i] = true
def RisN (l : List ByteArray) (k : Nat) : Prop := ∀ i (h : i < l.length), 0 < i → i < k → cmpT l[i - 1].data.toList l[i].data.toList < 0

def zeroA (a : AtomT) : Prop := a.x = 0 ∧ a.n = 0 ∧ a.t.toList = [] ∧ a.y.toList = []
def GoodVal (v : ValT) : Prop :=
  (v.k = 1 ∧ v.a.good = true ∧ v.items = [] ∧ v.names = []) ∨
  (v.k = 2 ∧ zeroA v.a ∧ v.items.length ≤ 50 ∧ AllA v.items v.items.length ∧ RisA v.items v.items.length ∧ v.names = []) ∨
  (v.k = 3 ∧ zeroA v.a ∧ v.items.length ≤ 50 ∧ AllA v.items v.items.length ∧ v.names.length = v.items.length ∧ AllN v.names v.names.length ∧ RisN v.names v.names.length)

theorem AllA.step {l : List AtomT} {k : Nat} (h : AllA l k) (hk : k < l.length) (g : l[k].good = true) : AllA l (k + 1) := by
  intro i hi hik
  by_cases e : i = k
  · subst e; exact g
  · exact h i hi (by omega)
theorem RisA.step {l : List AtomT} {k : Nat} (h : RisA l k) (hk : k < l.length) (g : 0 < k → l[k - 1].cmp l[k] < 0) : RisA l (k + 1) := by
  intro i hi h0 hik
  by_cases e : i = k
  · subst e; exact g h0
  · exact h i hi h0 (by omega)
theorem AllN.step {l : List ByteArray} {k : Nat} (h : AllN l k) (hk : k < l.length) (g : goodName l[k] = true) : AllN l (k + 1) := by
  intro i hi hik
  by_cases e : i = k
  · subst e; exact g
  · exact h i hi (by omega)
theorem RisN.step {l : List ByteArray} {k : Nat} (h : RisN l k) (hk : k < l.length) (g : 0 < k → cmpT l[k - 1].data.toList l[k].data.toList < 0) : RisN l (k + 1) := by
  intro i hi h0 hik
  by_cases e : i = k
  · subst e; exact g h0
  · exact h i hi h0 (by omega)

theorem len_zero_iff {α : Type} {l : List α} {len : Nat} (h : len = l.length) : ((len : Int) == 0) = true ↔ l = [] := by
  rw [beq_iff_eq, ← List.length_eq_zero_iff]; omega
/-- It returns a bool that says whether p. -/
def RetB (e : Ending) (p : Prop) : Prop := ∃ b : Bool, e = .returned (.bool b) ∧ (b = true ↔ p)
theorem retB {b : Bool} {p : Prop} (h : b = true ↔ p) : RetB (.returned (.bool b)) p := ⟨b, rfl, h⟩

theorem goodVal_1 (A : AtomT) (items : List AtomT) (names : List ByteArray) : GoodVal ⟨1, A, items, names⟩ ↔ (A.good = true ∧ items = [] ∧ names = []) := by
  unfold GoodVal
  constructor
  · rintro (h | h | h)
    · exact h.2
    · exact absurd h.1 (by simp)
    · exact absurd h.1 (by simp)
  · intro h; exact .inl ⟨rfl, h⟩
theorem goodVal_2 (A : AtomT) (items : List AtomT) (names : List ByteArray) : GoodVal ⟨2, A, items, names⟩ ↔ (zeroA A ∧ items.length ≤ 50 ∧ AllA items items.length ∧ RisA items items.length ∧ names = []) := by
  unfold GoodVal
  constructor
  · rintro (h | h | h)
    · exact absurd h.1 (by simp)
    · exact h.2
    · exact absurd h.1 (by simp)
  · intro h; exact .inr (.inl ⟨rfl, h⟩)
theorem goodVal_3 (A : AtomT) (items : List AtomT) (names : List ByteArray) : GoodVal ⟨3, A, items, names⟩ ↔ (zeroA A ∧ items.length ≤ 50 ∧ AllA items items.length ∧ names.length = items.length ∧ AllN names names.length ∧ RisN names names.length) := by
  unfold GoodVal
  constructor
  · rintro (h | h | h)
    · exact absurd h.1 (by simp)
    · exact absurd h.1 (by simp)
    · exact h.2
  · intro h; exact .inr (.inr ⟨rfl, h⟩)

end Go.Proofs.YtkgneiideibfjaaGreatDoor.V
