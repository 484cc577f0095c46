/- What a good caveat is: pure. -/
import Derived.Test.YtmkgehcfdcoliaaGreatRTer
import Derived.Test.YtmkgehcfdcoliaaGreatWCmp
import Derived.Test.YtmkgehcfdcoliaaGreatWValS
import Derived.Test.YtmkgehcfdcoliaaGreatGMap
namespace Go.Proofs.YtmkgehcfdcoliaaGreat.V
open Go.RowKit

abbrev empB : ByteArray := ⟨#[]⟩

/-- The first param of that name. -/
def findP : List ParamT → ByteArray → Option ParamT
  | [], _ => none
  | p :: r, s => if p.f0 = s then some p else findP r s

theorem findP_at {l : List ParamT} {s : ByteArray} {k : Nat} (hk : k < l.length) (h : ∀ i (hi : i < l.length), i < k → l[i].f0 ≠ s) (e : l[k].f0 = s) : findP l s = some l[k] := by
  induction l generalizing k with
  | nil => simp at hk
  | cons p r ih =>
    cases k with
    | zero => simp at e; simp [findP, e]
    | succ k =>
      have h0 : p.f0 ≠ s := h 0 (by simp) (by omega)
      rw [findP, if_neg h0]
      exact ih (by simpa using hk) (fun i hi hik => h (i + 1) (by simpa using hi) (by omega)) (by simpa using e)
theorem findP_none {l : List ParamT} {s : ByteArray} (h : ∀ i (hi : i < l.length), l[i].f0 ≠ s) : findP l s = none := by
  induction l with
  | nil => rfl
  | cons p r ih =>
    have h0 : p.f0 ≠ s := h 0 (by simp)
    rw [findP, if_neg h0]
    exact ih (fun i hi => h (i + 1) (by simpa using hi))
theorem findP_mem {l : List ParamT} {s : ByteArray} {p : ParamT} (h : findP l s = some p) : p ∈ l ∧ p.f0 = s := by
  induction l with
  | nil => simp [findP] at h
  | cons q r ih =>
    rw [findP] at h
    split at h
    · rename_i e; simp at h; subst h; exact ⟨by simp, e⟩
    · exact ⟨List.mem_cons_of_mem _ (ih h).1, (ih h).2⟩
theorem findP_isNone {l : List ParamT} {s : ByteArray} (h : findP l s = none) {p : ParamT} (hp : p ∈ l) : p.f0 ≠ s := by
  induction l with
  | nil => simp at hp
  | cons q r ih =>
    rw [findP] at h
    split at h
    · cases h
    · rename_i e
      rcases List.mem_cons.1 hp with rfl | hp
      · exact e
      · exact ih h hp

/-! ### the order of names -/
theorem cmpT_trans : ∀ {a b c : List UInt8}, cmpT a b < 0 → cmpT b c < 0 → cmpT a c < 0
  | [], [], _, h, _ => by simp [cmpT] at h
  | [], _ :: _, [], _, h => by simp [cmpT] at h
  | [], _ :: _, _ :: _, _, _ => by simp [cmpT]
  | _ :: _, [], _, h, _ => by simp [cmpT] at h
  | _ :: _, _ :: _, [], _, h => by simp [cmpT] at h
  | x :: a, y :: b, z :: c, h, k => by
    simp only [cmpT] at h k ⊢
    have lt_of : ∀ {p q : Int}, cmpN p q < 0 → p < q := fun {p q} h => by
      unfold cmpN at h; split at h
      · assumption
      · split at h <;> omega
    have of_lt : ∀ {p q : Int}, p < q → cmpN p q < 0 := fun {p q} h => by unfold cmpN; rw [if_pos h]; omega
    by_cases e1 : x = y
    · subst e1
      rw [if_pos rfl] at h
      by_cases e2 : x = z
      · subst e2; rw [if_pos rfl] at k ⊢; exact cmpT_trans h k
      · rw [if_neg e2] at k ⊢; exact k
    · rw [if_neg e1] at h
      have h1 := lt_of h
      by_cases e2 : y = z
      · subst e2; rw [if_neg e1]; exact h
      · rw [if_neg e2] at k
        have h2 := lt_of k
        have e3 : x ≠ z := fun e => by subst e; omega
        rw [if_neg e3]; exact of_lt (by omega)

def cPar (p q : ParamT) : Int := cmpT p.f0.data.toList q.f0.data.toList
def RisP (l : List ParamT) (k : Nat) : Prop := ∀ i (h : i < l.length), 0 < i → i < k → cPar l[i - 1] l[i] < 0
theorem RisP.step {l : List ParamT} {k : Nat} (h : RisP l k) (hk : k < l.length) (g : 0 < k → cPar l[k - 1] l[k] < 0) : RisP l (k + 1) := by
  intro i hi h0 h1
  rcases Nat.lt_or_ge i k with h2 | h2
  · exact h i hi h0 h2
  · obtain rfl : i = k := by omega
    exact g h0
theorem RisP.lt {l : List ParamT} (h : RisP l l.length) : ∀ (d i : Nat) (hj : i + d + 1 < l.length), cPar (l[i]'(by omega)) l[i + d + 1] < 0
  | 0, i, hj => by have := h (i + 1) (by omega) (by omega) (by omega); simpa using this
  | d + 1, i, hj => by
    have h1 := RisP.lt h d i (by omega)
    have h2 := h (i + (d + 1) + 1) (by omega) (by omega) (by omega)
    have h3 : cPar (l[i + d + 1]'(by omega)) (l[i + (d + 1) + 1]'hj) < 0 := h2
    exact cmpT_trans h1 h3
theorem RisP.ne {l : List ParamT} (h : RisP l l.length) {i j : Nat} (hi : i < l.length) (hj : j < l.length) (e : l[i].f0 = l[j].f0) : i = j := by
  rcases Nat.lt_trichotomy i j with g | g | g
  · obtain ⟨d, rfl⟩ : ∃ d, j = i + d + 1 := ⟨j - i - 1, by omega⟩
    have := h.lt d i hj
    unfold cPar at this; rw [e, cmpT_self] at this; omega
  · exact g
  · obtain ⟨d, rfl⟩ : ∃ d, i = j + d + 1 := ⟨i - j - 1, by omega⟩
    have := h.lt d j hi
    unfold cPar at this; rw [← e, cmpT_self] at this; omega

/-! ### a good param, a good term -/
def gPar (p : ParamT) : Bool := goodName p.f0 && (!(p.f0.toList == [116, 114, 117, 101]) && (!(p.f0.toList == [102, 97, 108, 115, 101]) && (decide (1 ≤ p.f1) && decide (p.f1 ≤ 7))))
theorem gPar_true {p : ParamT} (h : gPar p = true) : goodName p.f0 = true ∧ 1 ≤ p.f1 ∧ p.f1 ≤ 7 := by
  unfold gPar at h
  simp only [Bool.and_eq_true, decide_eq_true_eq] at h
  exact ⟨h.1, h.2.2.2⟩
def AllP (l : List ParamT) (k : Nat) : Prop := ∀ i (h : i < l.length), i < k → gPar l[i] = true
theorem AllP.step {l : List ParamT} {k : Nat} (h : AllP l k) (hk : k < l.length) (g : gPar l[k] = true) : AllP l (k + 1) := by
  intro i hi h1
  rcases Nat.lt_or_ge i k with h2 | h2
  · exact h i hi h2
  · obtain rfl : i = k := by omega
    exact g
def zAtomT (t : CavTermT) : Prop := t.f3 = 0 ∧ t.f4 = 0 ∧ t.f5 = empB ∧ t.f6 = empB
instance (t : CavTermT) : Decidable (zAtomT t) := inferInstanceAs (Decidable (_ ∧ _))
def opOk (op k : Int) : Bool := (op == 1) || (((op == 2) || (op == 3)) && ((k == 2) || (k == 3) || (k == 5) || (k == 7))) || ((op == 4) && (k == 6))
/-- The kind of a term's right side; none: it is not as said. -/
def rKind (l : List ParamT) (t : CavTermT) : Option Int :=
  if t.f2 = empB then (if goodAtom t.f3 t.f4 t.f5 t.f6 = true then some t.f3 else none)
  else if zAtomT t then (findP l t.f2).map (·.f1) else none
/-- A good term. -/
def GTerm (l : List ParamT) (t : CavTermT) : Prop := ∃ p, findP l t.f0 = some p ∧ rKind l t = some p.f1 ∧ opOk t.f1 p.f1 = true
def AllT (l : List ParamT) (ts : List CavTermT) (k : Nat) : Prop := ∀ i (h : i < ts.length), i < k → GTerm l ts[i]
theorem AllT.step {l : List ParamT} {ts : List CavTermT} {k : Nat} (h : AllT l ts k) (hk : k < ts.length) (g : GTerm l ts[k]) : AllT l ts (k + 1) := by
  intro i hi h1
  rcases Nat.lt_or_ge i k with h2 | h2
  · exact h i hi h2
  · obtain rfl : i = k := by omega
    exact g
/-- A good caveat. -/
structure GCav (n : ByteArray) (l : List ParamT) (ts : List CavTermT) : Prop where
  name : goodName n = true
  p0 : 1 ≤ l.length
  p6 : l.length ≤ 6
  t0 : 1 ≤ ts.length
  t6 : ts.length ≤ 6
  all : AllP l l.length
  ris : RisP l l.length
  terms : AllT l ts ts.length
theorem GTerm.pos {l : List ParamT} {t : CavTermT} (h : GTerm l t) : 1 ≤ l.length := by
  obtain ⟨p, h1, _⟩ := h
  have := (findP_mem h1).1
  cases l with
  | nil => simp at this
  | cons a b => simp

/-! ### the map of kinds -/
abbrev KMs (w : World) (b n : Nat) (m : ByteArray → Option Value) : Prop := KM Tryz.prog 9 Value.string w b n m
def kMap : List ParamT → (ByteArray → Option Value) → ByteArray → Option Value
  | [], m => m
  | p :: r, m => kMap r (updK m p.f0 (.int .i64 p.f1))
theorem kMap_snoc (l : List ParamT) (p : ParamT) (m : ByteArray → Option Value) : kMap (l ++ [p]) m = updK (kMap l m) p.f0 (.int .i64 p.f1) := by
  induction l generalizing m with
  | nil => rfl
  | cons q r ih => exact ih _
theorem kMap_notin (l : List ParamT) (m : ByteArray → Option Value) (s : ByteArray) (h : ∀ p ∈ l, p.f0 ≠ s) : kMap l m s = m s := by
  induction l generalizing m with
  | nil => rfl
  | cons q r ih =>
    rw [kMap, ih _ (fun p hp => h p (List.mem_cons_of_mem _ hp))]
    have := h q (by simp)
    simp [updK, Ne.symm this]
theorem kMap_find (l : List ParamT) (h : ∀ i j (hi : i < l.length) (hj : j < l.length), l[i].f0 = l[j].f0 → i = j) (s : ByteArray) : kMap l (fun _ => none) s = (findP l s).map (fun p => Value.int .i64 p.f1) := by
  suffices H : ∀ m, kMap l m s = ((findP l s).map (fun p => Value.int .i64 p.f1)).or (m s) by rw [H]; cases findP l s <;> rfl
  intro m
  induction l generalizing m with
  | nil => simp [kMap, findP]
  | cons q r ih =>
    have h' : ∀ i j (hi : i < r.length) (hj : j < r.length), r[i].f0 = r[j].f0 → i = j := fun i j hi hj e => by
      have := h (i + 1) (j + 1) (by simpa using hi) (by simpa using hj) (by simpa using e); omega
    rw [kMap, findP]
    by_cases e : q.f0 = s
    · rw [if_pos e, kMap_notin r _ s (fun p hp => ?_)]
      · simp [updK, e]
      · obtain ⟨i, hi, rfl⟩ := List.getElem_of_mem hp
        intro e2
        have := h 0 (i + 1) (by simp) (by simpa using hi) (by simp [e, e2])
        omega
    · rw [if_neg e, ih h']
      have : updK m q.f0 (.int .i64 q.f1) s = m s := by simp [updK, Ne.symm e]
      rw [this]
end Go.Proofs.YtmkgehcfdcoliaaGreat.V
