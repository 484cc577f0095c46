/- WValS, YNod, one behind the other. -/
import Derived.Test.YteaidfighimoiaaGreatJ2
import Derived.Test.YteaidfighimoiaaGreatJ6
import Derived.Test.YteaidfighimoiaaGreatJ9
import Derived.Test.YteaidfighimoiaaGreatJ8
/- WValS, ported from seat 1a. -/
namespace Go.Proofs.YteaidfighimoiaaGreat.V
open Go.RowKit

def AtomT.good (a : AtomT) : Bool := goodAtom a.x a.n a.t a.y
def AtomT.cmp (a b : AtomT) : Int := cmpA a.x a.n a.t a.y b.x b.n b.t b.y
/-- The first k are good. -/
def AllA (l : List AtomT) (k : Nat) : Prop := ∀ i (h : i < l.length), i < k → l[i].good = true
/-- The first k rise. -/
def RisA (l : List AtomT) (k : Nat) : Prop := ∀ i (h : i < l.length), 0 < i → i < k → l[i - 1].cmp l[i] < 0
def AllN (l : List ByteArray) (k : Nat) : Prop := ∀ i (h : i < l.length), i < k → goodName l[i] = true
def RisN (l : List ByteArray) (k : Nat) : Prop := ∀ i (h : i < l.length), 0 < i → i < k → cmpT l[i - 1].data.toList l[i].data.toList < 0

def zeroA (a : AtomT) : Prop := a.x = 0 ∧ a.n = 0 ∧ a.t.toList = [] ∧ a.y.toList = []
def GoodVal (v : ValT) : Prop :=
  (v.k = 1 ∧ v.a.good = true ∧ v.items = [] ∧ v.names = []) ∨
  (v.k = 2 ∧ zeroA v.a ∧ v.items.length ≤ 50 ∧ AllA v.items v.items.length ∧ RisA v.items v.items.length ∧ v.names = []) ∨
  (v.k = 3 ∧ zeroA v.a ∧ v.items.length ≤ 50 ∧ AllA v.items v.items.length ∧ v.names.length = v.items.length ∧ AllN v.names v.names.length ∧ RisN v.names v.names.length)

theorem AllA.step {l : List AtomT} {k : Nat} (h : AllA l k) (hk : k < l.length) (g : l[k].good = true) : AllA l (k + 1) := by
  intro i hi hik
  by_cases e : i = k
  · subst e; exact g
  · exact h i hi (by omega)
theorem RisA.step {l : List AtomT} {k : Nat} (h : RisA l k) (hk : k < l.length) (g : 0 < k → l[k - 1].cmp l[k] < 0) : RisA l (k + 1) := by
  intro i hi h0 hik
  by_cases e : i = k
  · subst e; exact g h0
  · exact h i hi h0 (by omega)
theorem AllN.step {l : List ByteArray} {k : Nat} (h : AllN l k) (hk : k < l.length) (g : goodName l[k] = true) : AllN l (k + 1) := by
  intro i hi hik
  by_cases e : i = k
  · subst e; exact g
  · exact h i hi (by omega)
theorem RisN.step {l : List ByteArray} {k : Nat} (h : RisN l k) (hk : k < l.length) (g : 0 < k → cmpT l[k - 1].data.toList l[k].data.toList < 0) : RisN l (k + 1) := by
  intro i hi h0 hik
  by_cases e : i = k
  · subst e; exact g h0
  · exact h i hi h0 (by omega)

theorem len_zero_iff {α : Type} {l : List α} {len : Nat} (h : len = l.length) : ((len : Int) == 0) = true ↔ l = [] := by
  rw [beq_iff_eq, ← List.length_eq_zero_iff]; omega
/-- It returns a bool that says whether p. -/
def RetB (e : Ending) (p : Prop) : Prop := ∃ b : Bool, e = .returned (.bool b) ∧ (b = true ↔ p)
theorem retB {b : Bool} {p : Prop} (h : b = true ↔ p) : RetB (.returned (.bool b)) p := ⟨b, rfl, h⟩

theorem goodVal_1 (A : AtomT) (items : List AtomT) (names : List ByteArray) : GoodVal ⟨1, A, items, names⟩ ↔ (A.good = true ∧ items = [] ∧ names = []) := by
  unfold GoodVal
  constructor
  · rintro (h | h | h)
    · exact h.2
    · exact absurd h.1 (by simp)
    · exact absurd h.1 (by simp)
  · intro h; exact .inl ⟨rfl, h⟩
theorem goodVal_2 (A : AtomT) (items : List AtomT) (names : List ByteArray) : GoodVal ⟨2, A, items, names⟩ ↔ (zeroA A ∧ items.length ≤ 50 ∧ AllA items items.length ∧ RisA items items.length ∧ names = []) := by
  unfold GoodVal
  constructor
  · rintro (h | h | h)
    · exact absurd h.1 (by simp)
    · exact h.2
    · exact absurd h.1 (by simp)
  · intro h; exact .inr (.inl ⟨rfl, h⟩)
theorem goodVal_3 (A : AtomT) (items : List AtomT) (names : List ByteArray) : GoodVal ⟨3, A, items, names⟩ ↔ (zeroA A ∧ items.length ≤ 50 ∧ AllA items items.length ∧ names.length = items.length ∧ AllN names names.length ∧ RisN names names.length) := by
  unfold GoodVal
  constructor
  · rintro (h | h | h)
    · exact absurd h.1 (by simp)
    · exact absurd h.1 (by simp)
    · exact h.2
  · intro h; exact .inr (.inr ⟨rfl, h⟩)

end Go.Proofs.YteaidfighimoiaaGreat.V
/- impl.isExprVar, isPairExpr, isPattern, goodExprNode. -/
namespace Go.Proofs.YteaidfighimoiaaGreat.V
open Go.RowKit Go.Maps

theorem isEmpE : empE.toList.isEmpty = true := by rw [ByteArray.toList_eq]; rfl
theorem eqEmp {a : ByteArray} (h : a.toList.isEmpty = true) : a = empE := by
  have e := List.isEmpty_iff.1 h
  rw [ByteArray.toList_eq] at e
  cases a with
  | mk d => cases d with
    | mk l => simp at e; subst e; rfl
theorem notEmpE {a : ByteArray} (h : ¬ a = empE) : a.toList.isEmpty = false := by
  cases e : a.toList.isEmpty
  · rfl
  · exact absurd (eqEmp e) h

set_option maxHeartbeats 400000 in
theorem isExprVar_any (s : ByteArray) (w : World) :
    Calls Tryz.prog 66 #[.string s] w fun e w' => RetB e (varP s) ∧ w = w' := by
  unfold varP
  go_enter Tryz.func66, Tryz.ntmps66
  cases h1 : (s.toList == [112, 114, 105, 110, 99, 105, 112, 97, 108])
  · cases h2 : (s.toList == [97, 99, 116, 105, 111, 110])
    · cases h3 : (s.toList == [114, 101, 115, 111, 117, 114, 99, 101])
      · cases h4 : (s.toList == [99, 111, 110, 116, 101, 120, 116])
        all_goals go_wp2_with fail
        all_goals go_ret
        all_goals (refine ⟨retB ?_, rfl⟩; simp_all)
      · go_wp2_with fail
        go_ret
        refine ⟨retB ?_, rfl⟩; simp_all
    · go_wp2_with fail
      go_ret
      refine ⟨retB ?_, rfl⟩; simp_all
  · go_wp2_with fail
    go_ret
    refine ⟨retB ?_, rfl⟩; simp_all

theorem isPairExpr_any (k : Int) (w : World) :
    Calls Tryz.prog 69 #[.int .i64 k] w fun e w' => RetB e (8 ≤ k ∧ k ≤ 19 ∧ k ≠ 10) ∧ w = w' := by
  go_enter Tryz.func69, Tryz.ntmps69
  go_wp2_with fail
  all_goals go_ret
  all_goals (refine ⟨retB ?_, rfl⟩; first | (simp; omega) | (simp; done))

theorem isPattern_any (s : ByteArray) (hs : s.size ≤ 200) (w : World) :
    Calls Tryz.prog 68 #[.string s] w fun e w' => RetB e ((toks s.data.toList).isSome = true) ∧ Below w.heap.size w w' := by
  have q := hide (patternParts_any s hs)
  clear hs
  go_enter Tryz.func68, Tryz.ntmps68
  go_wp2_with fail
  refine (unhide q _).mono ?_
  rintro e w1 ⟨(⟨h1, rfl⟩ | ⟨ts, v, h1, rfl, _⟩), hb1⟩
  · have H1 := hide h1
    clear h1
    go_wp2_with fail
    go_ret
    exact ⟨retB (by rw [unhide H1]; simp), hb1⟩
  · have H1 := hide h1
    clear h1
    go_wp2_with fail
    go_ret
    exact ⟨retB (by rw [unhide H1]; simp), hb1⟩

theorem empE_iff {a : ByteArray} : a = empE ↔ a.toList = [] :=
  ⟨fun h => by rw [h, ByteArray.toList_eq], fun h => eqEmp (by rw [h]; rfl)⟩

set_option maxRecDepth 20000 in
set_option maxHeartbeats 1000000 in
theorem node6_any (x : ExprT) (w : World) (hk : x.f0 = 6 ∨ x.f0 = 7) :
    Calls Tryz.prog 57 #[eAgg x] w fun e w' => RetB e (zEx x ∧ x.f1 = empE ∧ x.f6 = 1) ∧ Below w.heap.size w w' := by
  obtain ⟨f0, f1, f2, f3, f4, f5, f6⟩ := x
  simp only [zEx] at *
  rcases hk with rfl | rfl
  all_goals go_enter Tryz.func57, Tryz.ntmps57
  all_goals go_wp2_with fail
  all_goals go_ret
  all_goals refine ⟨retB ?_, bAl (Below.refl _ _) _⟩
  all_goals simp only [empE_iff]
  all_goals simp_all

set_option maxRecDepth 20000 in
set_option maxHeartbeats 1000000 in
theorem node10_any (x : ExprT) (w : World) (hk : x.f0 = 10) :
    Calls Tryz.prog 57 #[eAgg x] w fun e w' => RetB e (zEx x ∧ x.f1 = empE ∧ x.f6 = 3) ∧ Below w.heap.size w w' := by
  obtain ⟨f0, f1, f2, f3, f4, f5, f6⟩ := x
  simp only [zEx] at *
  rcases hk with rfl
  all_goals go_enter Tryz.func57, Tryz.ntmps57
  all_goals go_wp2_with fail
  all_goals go_ret
  all_goals refine ⟨retB ?_, bAl (Below.refl _ _) _⟩
  all_goals simp only [empE_iff]
  all_goals simp_all

set_option maxRecDepth 20000 in
set_option maxHeartbeats 1000000 in
theorem node2_any (x : ExprT) (w : World) (hk : x.f0 = 2) :
    Calls Tryz.prog 57 #[eAgg x] w fun e w' => RetB e (zEx x ∧ x.f1 = empE ∧ 0 ≤ x.f6 ∧ x.f6 ≤ 10) ∧ Below w.heap.size w w' := by
  obtain ⟨f0, f1, f2, f3, f4, f5, f6⟩ := x
  simp only [zEx] at *
  rcases hk with rfl
  all_goals go_enter Tryz.func57, Tryz.ntmps57
  all_goals go_wp2_with fail
  all_goals go_ret
  all_goals refine ⟨retB ?_, bAl (Below.refl _ _) _⟩
  all_goals simp only [empE_iff]
  all_goals (first | (simp_all; done) | (simp_all; omega))

set_option maxRecDepth 20000 in
set_option maxHeartbeats 1000000 in
theorem node1_any (x : ExprT) (w : World) (hx : x.Ok) (hk : x.f0 = 1) :
    Calls Tryz.prog 57 #[eAgg x] w fun e w' => RetB e (x.f1 = empE ∧ x.f6 = 0 ∧ goodAtom x.f2 x.f3 x.f4 x.f5 = true) ∧ Below w.heap.size w w' := by
  obtain ⟨f0, f1, f2, f3, f4, f5, f6⟩ := x
  have q := hide (fun w => iGoodAtom_any f2 f3 f4 f5 w hx.n9 hx.o4 hx.o5)
  clear hx
  generalize goodAtom f2 f3 f4 f5 = G at *
  rcases hk with rfl
  all_goals go_enter Tryz.func57, Tryz.ntmps57
  all_goals go_wp2_with (refine (unhide q _).mono ?_; rintro e w1 ⟨rfl, hb1⟩; replace hb1 := hide hb1)
  all_goals go_ret
  all_goals (first | refine ⟨retB ?_, bAl (Below.refl _ _) _⟩ | refine ⟨retB ?_, bTr (bAl (Below.refl _ _) _) (unhide hb1)⟩)
  all_goals simp only [empE_iff]
  all_goals simp_all

set_option maxRecDepth 20000 in
set_option maxHeartbeats 1000000 in
theorem node3_any (x : ExprT) (w : World) (hk : x.f0 = 3) :
    Calls Tryz.prog 57 #[eAgg x] w fun e w' => RetB e (zEx x ∧ x.f6 = 0 ∧ varP x.f1) ∧ Below w.heap.size w w' := by
  obtain ⟨f0, f1, f2, f3, f4, f5, f6⟩ := x
  simp only [zEx] at *
  have q := hide (isExprVar_any f1)
  generalize varP f1 = V at *
  rcases hk with rfl
  all_goals go_enter Tryz.func57, Tryz.ntmps57
  all_goals go_wp2_with (refine (unhide q _).mono ?_; rintro e w1 ⟨⟨b1, rfl, h1⟩, rfl⟩; replace h1 := hide h1)
  all_goals go_ret
  all_goals refine ⟨retB ?_, bAl (Below.refl _ _) _⟩
  all_goals simp only [empE_iff]
  all_goals (try replace h1 := unhide h1)
  all_goals simp_all

set_option maxRecDepth 20000 in
set_option maxHeartbeats 1000000 in
theorem node4_any (x : ExprT) (w : World) (hx : x.Ok) (hk : x.f0 = 4 ∨ x.f0 = 5 ∨ x.f0 = 21) :
    Calls Tryz.prog 57 #[eAgg x] w fun e w' => RetB e (zEx x ∧ x.f6 = 1 ∧ goodName x.f1 = true) ∧ Below w.heap.size w w' := by
  obtain ⟨f0, f1, f2, f3, f4, f5, f6⟩ := x
  simp only [zEx] at *
  have q := hide (iGoodName_any f1 hx.o1)
  clear hx
  generalize goodName f1 = G at *
  rcases hk with rfl | rfl | rfl
  all_goals go_enter Tryz.func57, Tryz.ntmps57
  all_goals go_wp2_with (refine (unhide q _).mono ?_; rintro e w1 ⟨rfl, hb1⟩; replace hb1 := hide hb1)
  all_goals go_ret
  all_goals (first | refine ⟨retB ?_, bAl (Below.refl _ _) _⟩ | refine ⟨retB ?_, bTr (bAl (Below.refl _ _) _) (unhide hb1)⟩)
  all_goals simp only [empE_iff]
  all_goals simp_all

end Go.Proofs.YteaidfighimoiaaGreat.V
