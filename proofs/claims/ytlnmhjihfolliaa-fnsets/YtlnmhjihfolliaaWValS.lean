/- WValS, ported from seat 1a. -/
import Derived.Test.YtlnmhjihfolliaaWRow
import Derived.Test.YtlnmhjihfolliaaQAtm
import Derived.Test.YtlnmhjihfolliaaWCmp
namespace Go.Proofs.Ytlnmhjihfolliaa.V
open Go.RowKit

def AtomT.good (a : AtomT) : Bool := goodAtom a.x a.n a.t a.y
def AtomT.cmp (a b : AtomT) : Int := cmpA a.x a.n a.t a.y b.x b.n b.t b.y
/-- The first k are good. -/
def AllA (l : List AtomT) (k : Nat) : Prop := ∀ i (h : i < l.length), i < k → l[i].good = true
/-- The first k rise. -/
def RisA (l : List AtomT) (k : Nat) : Prop := ∀ i (h : i < l.length), 0 < i → i < k → l[i - 1].cmp l[i] < 0
def AllN (l : List ByteArray) (k : Nat) : Prop := ∀ i (h : i < l.length), i < k → goodName l[i] = true
def RisN (l : List ByteArray) (k : Nat) : Prop := ∀ i (h : i < l.length), 0 < i → i < k → cmpT l[i - 1].data.toList l[i].data.toList < 0

def zeroA (a : AtomT) : Prop := a.x = 0 ∧ a.n = 0 ∧ a.t.toList = [] ∧ a.y.toList = []
def GoodVal (v : ValT) : Prop :=
  (v.k = 1 ∧ v.a.good = true ∧ v.items = [] ∧ v.names = []) ∨
  (v.k = 2 ∧ zeroA v.a ∧ v.items.length ≤ 50 ∧ AllA v.items v.items.length ∧ RisA v.items v.items.length ∧ v.names = []) ∨
  (v.k = 3 ∧ zeroA v.a ∧ v.items.length ≤ 50 ∧ AllA v.items v.items.length ∧ v.names.length = v.items.length ∧ AllN v.names v.names.length ∧ RisN v.names v.names.length)

theorem AllA.step {l : List AtomT} {k : Nat} (h : AllA l k) (hk : k < l.length) (g : l[k].good = true) : AllA l (k + 1) := by
  intro i hi hik
  by_cases e : i = k
  · subst e; exact g
  · exact h i hi (by omega)
theorem RisA.step {l : List AtomT} {k : Nat} (h : RisA l k) (hk : k < l.length) (g : 0 < k → l[k - 1].cmp l[k] < 0) : RisA l (k + 1) := by
  intro i hi h0 hik
  by_cases e : i = k
  · subst e; exact g h0
  · exact h i hi h0 (by omega)
theorem AllN.step {l : List ByteArray} {k : Nat} (h : AllN l k) (hk : k < l.length) (g : goodName l[k] = true) : AllN l (k + 1) := by
  intro i hi hik
  by_cases e : i = k
  · subst e; exact g
  · exact h i hi (by omega)
theorem RisN.step {l : List ByteArray} {k : Nat} (h : RisN l k) (hk : k < l.length) (g : 0 < k → cmpT l[k - 1].data.toList l[k].data.toList < 0) : RisN l (k + 1) := by
  intro i hi h0 hik
  by_cases e : i = k
  · subst e; exact g h0
  · exact h i hi h0 (by omega)

theorem len_zero_iff {α : Type} {l : List α} {len : Nat} (h : len = l.length) : ((len : Int) == 0) = true ↔ l = [] := by
  rw [beq_iff_eq, ← List.length_eq_zero_iff]; omega
/-- It returns a bool that says whether p. -/
def RetB (e : Ending) (p : Prop) : Prop := ∃ b : Bool, e = .returned (.bool b) ∧ (b = true ↔ p)
theorem retB {b : Bool} {p : Prop} (h : b = true ↔ p) : RetB (.returned (.bool b)) p := ⟨b, rfl, h⟩

theorem goodVal_1 (A : AtomT) (items : List AtomT) (names : List ByteArray) : GoodVal ⟨1, A, items, names⟩ ↔ (A.good = true ∧ items = [] ∧ names = []) := by
  unfold GoodVal
  constructor
  · rintro (h | h | h)
    · exact h.2
    · exact absurd h.1 (by simp)
    · exact absurd h.1 (by simp)
  · intro h; exact .inl ⟨rfl, h⟩
theorem goodVal_2 (A : AtomT) (items : List AtomT) (names : List ByteArray) : GoodVal ⟨2, A, items, names⟩ ↔ (zeroA A ∧ items.length ≤ 50 ∧ AllA items items.length ∧ RisA items items.length ∧ names = []) := by
  unfold GoodVal
  constructor
  · rintro (h | h | h)
    · exact absurd h.1 (by simp)
    · exact h.2
    · exact absurd h.1 (by simp)
  · intro h; exact .inr (.inl ⟨rfl, h⟩)
theorem goodVal_3 (A : AtomT) (items : List AtomT) (names : List ByteArray) : GoodVal ⟨3, A, items, names⟩ ↔ (zeroA A ∧ items.length ≤ 50 ∧ AllA items items.length ∧ names.length = items.length ∧ AllN names names.length ∧ RisN names names.length) := by
  unfold GoodVal
  constructor
  · rintro (h | h | h)
    · exact absurd h.1 (by simp)
    · exact absurd h.1 (by simp)
    · exact h.2
  · intro h; exact .inr (.inr ⟨rfl, h⟩)

set_option maxHeartbeats 1000000 in
theorem sGoodValue_1 (A : AtomT) (items : List AtomT) (names : List ByteArray) (hv : A.Ok) (a1 a2 : Option Addr) (l1 c1 l2 c2 : Nat) (w : World) (e1 : l1 = items.length) (e2 : l2 = names.length) :
    Calls Try.prog 8 #[.agg #[.int .i64 1, .int .i64 A.x, .int .i64 A.n, .string A.t, .string A.y, .slice a1 l1 c1, .slice a2 l2 c2]] w
      fun e w' => RetB e (GoodVal ⟨1, A, items, names⟩) ∧ Below w.heap.size w w' := by
  have hg : GoodVal ⟨1, A, items, names⟩ ↔ (A.good = true ∧ ((l1 : Int) == 0) = true ∧ ((l2 : Int) == 0) = true) := by
    rw [len_zero_iff e1, len_zero_iff e2]; exact goodVal_1 A items names
  have hq := hide (fun w => sGoodAtom_any A.x A.n A.t A.y w hv.n9 hv.t9 hv.y9)
  have HG := hide hg
  clear hg e1 e2 hv
  have e : A.good = goodAtom A.x A.n A.t A.y := rfl
  cases g0 : goodAtom A.x A.n A.t A.y
  · rw [g0] at e
    have E := hide e
    have G0 := hide g0
    clear e g0
    go_enter Try.func8, Try.ntmps8
    go_wp2_with fail
    refine (unhide hq _).mono ?_
    rintro e w1 ⟨rfl, hb1⟩
    rw [unhide G0]
    go_wp2_with fail
    go_ret
    exact ⟨retB (b := false) (by rw [unhide HG, unhide E]; simp), bTr (bAl (Below.refl _ _) _) hb1⟩
  · rw [g0] at e
    have E := hide e
    have G0 := hide g0
    clear e g0
    cases g1 : ((l1 : Int) == 0) <;> cases g2 : ((l2 : Int) == 0)
    all_goals
      go_enter Try.func8, Try.ntmps8
      go_wp2_with fail
      refine (unhide hq _).mono ?_
      rintro e w1 ⟨rfl, hb1⟩
      rw [unhide G0]
      obtain ⟨_, _, _, _, _, d5, d6, _⟩ := (ValAt.new w ⟨1, A, items, names⟩ (.slice a1 l1 c1) (.slice a2 l2 c2) 29).keep hb1
      go_wp2_with fail
      go_ret
      exact ⟨retB (by rw [unhide HG, unhide E, g1, g2]; simp), bTr (bAl (Below.refl _ _) _) hb1⟩

theorem sGoodValue_else (v : ValT) (a1 a2 : Option Addr) (l1 c1 l2 c2 : Nat) (w : World) (h1 : ¬ v.k = 1) (h2 : ¬ v.k = 2) (h3 : ¬ v.k = 3) :
    Calls Try.prog 8 #[.agg #[.int .i64 v.k, .int .i64 v.a.x, .int .i64 v.a.n, .string v.a.t, .string v.a.y, .slice a1 l1 c1, .slice a2 l2 c2]] w
      fun e w' => RetB e (GoodVal v) ∧ Below w.heap.size w w' := by
  have hg : ¬ GoodVal v := by
    unfold GoodVal
    rintro (h | h | h)
    · exact h1 h.1
    · exact h2 h.1
    · exact h3 h.1
  have HG := hide hg
  have t1 : (v.k == 1) = false := by simpa using h1
  have t2 : (v.k == 2) = false := by simpa using h2
  have t3 : (v.k == 3) = false := by simpa using h3
  clear h1 h2 h3 hg
  go_enter Try.func8, Try.ntmps8
  go_wp2_with fail
  go_ret
  exact ⟨retB (b := false) (by simp [unhide HG]), bAl (Below.refl _ _) _⟩
end Go.Proofs.Ytlnmhjihfolliaa.V
