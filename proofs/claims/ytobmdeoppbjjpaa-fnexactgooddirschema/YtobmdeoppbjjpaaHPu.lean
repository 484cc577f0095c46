/- Schemas of directories: what is asked of them, and going up. Pure. -/
import Derived.Test.YtobmdeoppbjjpaaHDs
import Derived.Test.YtobmdeoppbjjpaaWCmp
import Derived.Test.YtobmdeoppbjjpaaGMap
namespace Go.Proofs.Ytobmdeoppbjjpaa.V
set_option linter.unusedSimpArgs false
open Go.RowKit Go.Maps

def RisS (l : List ByteArray) : Prop := ∀ i (h : i + 1 < l.length), cmpT l[i].data.toList l[i + 1].data.toList < 0
def clsW : ByteArray := ⟨#[99, 108, 97, 115, 115]⟩
def GTy (t : AttrTypeT) : Prop := goodName t.f0 = true ∧ 1 ≤ t.f1 ∧ t.f1 ≤ 4
/-- Going up by F ends within k. -/
def EndsF (F : ByteArray → Option ClassT) : Nat → ByteArray → Prop
  | 0, s => s = ⟨#[]⟩
  | k + 1, s => s = ⟨#[]⟩ ∨ ∃ c, F s = some c ∧ EndsF F k c.f1
theorem EndsF.succ {F : ByteArray → Option ClassT} : ∀ {k : Nat} {s : ByteArray}, EndsF F k s → EndsF F (k + 1) s
  | 0, _, h => .inl h
  | _ + 1, _, h => h.elim .inl fun ⟨c, hc, h⟩ => .inr ⟨c, hc, h.succ⟩
theorem EndsF.mono {F : ByteArray → Option ClassT} {k j : Nat} {s : ByteArray} (h : EndsF F k s) (hj : k ≤ j) : EndsF F j s := by
  induction hj with
  | refl => exact h
  | step _ ih => exact ih.succ
theorem ends_empty (F : ByteArray → Option ClassT) (k : Nat) : EndsF F k ⟨#[]⟩ := by cases k <;> simp [EndsF]
theorem ends_step {F : ByteArray → Option ClassT} {k : Nat} {s : ByteArray} {c : ClassT} (h : F s = some c) (hs : s ≠ ⟨#[]⟩) : EndsF F (k + 1) s ↔ EndsF F k c.f1 := by
  constructor
  · rintro (h1 | ⟨d, hd, h1⟩)
    · exact absurd h1 hs
    · rw [h] at hd; cases hd; exact h1
  · exact fun h1 => .inr ⟨c, h, h1⟩
theorem ends_congr {F G : ByteArray → Option ClassT} (h : ∀ s, F s = G s) (k : Nat) (s : ByteArray) : EndsF F k s ↔ EndsF G k s := by
  have : F = G := funext h
  rw [this]

section
variable {F : ByteArray → Option ClassT} {cs : List ClassT}
open Classical in
noncomputable def cntE (F : ByteArray → Option ClassT) (cs : List ClassT) (k : Nat) : Nat := cs.countP fun c => decide (EndsF F k c.f0)
/-- Where one more step reaches no more of the names, no number of steps does. -/
theorem ends_stuck (hF : ∀ s c, F s = some c → ∃ d ∈ cs, d.f0 = s) {k : Nat} (h : ∀ c ∈ cs, EndsF F (k + 1) c.f0 → EndsF F k c.f0) : ∀ (j : Nat) (s : ByteArray), EndsF F (k + j) s → EndsF F k s := by
  have all : ∀ s, EndsF F (k + 1) s → EndsF F k s := fun s hs => by
    by_cases he : s = ⟨#[]⟩
    · rw [he]; exact ends_empty F k
    · rcases hs with h1 | ⟨c, hc, h1⟩
      · exact absurd h1 he
      · obtain ⟨d, hd, hds⟩ := hF s c hc
        rw [← hds]
        exact h d hd (by rw [hds]; exact .inr ⟨c, hc, h1⟩)
  intro j
  induction j with
  | zero => exact fun s h => h
  | succ j ih =>
    intro s hs
    rcases hs with h1 | ⟨c, hc, h1⟩
    · rw [h1]; exact ends_empty F k
    · exact all s (.inr ⟨c, hc, ih _ h1⟩)
theorem countP_le_of {α : Type} {p q : α → Bool} : ∀ {l : List α}, (∀ x ∈ l, p x = true → q x = true) → l.countP p ≤ l.countP q
  | [], _ => by simp
  | x :: l, h => by
    have ih := countP_le_of (l := l) (fun y hy => h y (List.mem_cons_of_mem _ hy))
    have hx := h x (List.mem_cons_self ..)
    simp only [List.countP_cons]
    cases hp : p x
    · simp; omega
    · rw [hx hp]; simp; omega
theorem countP_lt_of {α : Type} {p q : α → Bool} : ∀ {l : List α}, (∀ x ∈ l, p x = true → q x = true) → (∃ x ∈ l, p x = false ∧ q x = true) → l.countP p < l.countP q
  | [], _, h => by obtain ⟨x, hx, _⟩ := h; cases hx
  | x :: l, h, hn => by
    have ih := countP_le_of (l := l) (fun y hy => h y (List.mem_cons_of_mem _ hy))
    have hx := h x (List.mem_cons_self ..)
    simp only [List.countP_cons]
    obtain ⟨y, hy, h1, h2⟩ := hn
    rcases List.mem_cons.1 hy with e | hy
    · subst e; rw [h1, h2]; simp; omega
    · have il := countP_lt_of (l := l) (fun z hz => h z (List.mem_cons_of_mem _ hz)) ⟨y, hy, h1, h2⟩
      cases hp : p x
      · simp; omega
      · rw [hx hp]; simp; omega
/-- Going up ends within as many steps as there are classes, or never. -/
theorem ends_all (hF : ∀ s c, F s = some c → ∃ d ∈ cs, d.f0 = s) (j : Nat) (s : ByteArray) (h : EndsF F j s) : EndsF F cs.length s := by
  have key : ∀ k, (∃ m, m ≤ k ∧ ∀ c ∈ cs, EndsF F (m + 1) c.f0 → EndsF F m c.f0) ∨ k ≤ cntE F cs k := by
    intro k
    induction k with
    | zero => exact .inr (Nat.zero_le _)
    | succ k ih =>
      rcases ih with ⟨m, hm, h⟩ | ih
      · exact .inl ⟨m, by omega, h⟩
      · by_cases hs : ∀ c ∈ cs, EndsF F (k + 1) c.f0 → EndsF F k c.f0
        · exact .inl ⟨k, by omega, hs⟩
        · right
          have hx : ∃ c ∈ cs, EndsF F (k + 1) c.f0 ∧ ¬ EndsF F k c.f0 := Classical.byContradiction fun hn => hs fun c hc h1 => Classical.byContradiction fun h2 => hn ⟨c, hc, h1, h2⟩
          obtain ⟨c, hc, h1, h2⟩ := hx
          have : cntE F cs k < cntE F cs (k + 1) := by
            unfold cntE
            exact countP_lt_of (fun x _ h => by simp at h ⊢; exact h.succ) ⟨c, hc, by simpa using h2, by simpa using h1⟩
          omega
  have stuck : ∀ m, m ≤ cs.length → (∀ c ∈ cs, EndsF F (m + 1) c.f0 → EndsF F m c.f0) → EndsF F cs.length s := fun m hm hh =>
    (ends_stuck hF hh j s (h.mono (by omega))).mono hm
  rcases key cs.length with ⟨m, hm, hh⟩ | hc
  · exact stuck m hm hh
  · refine stuck cs.length (Nat.le_refl _) fun c hc' _ => ?_
    have e : cntE F cs cs.length = cs.length := by
      have : cntE F cs cs.length ≤ cs.length := List.countP_le_length
      omega
    unfold cntE at e
    have := (List.countP_eq_length.1 e) c hc'
    simpa using this
end

/-- The classes by their names: the first one of each name. -/
def fstC (cs : List ClassT) (s : ByteArray) : Option ClassT := cs.find? fun c => decide (c.f0 = s)
theorem fstC_mem {cs : List ClassT} {s : ByteArray} {c : ClassT} (h : fstC cs s = some c) : c ∈ cs ∧ c.f0 = s := ⟨List.mem_of_find?_eq_some h, by have := List.find?_some h; simpa using this⟩
theorem fstC_none {cs : List ClassT} {s : ByteArray} (h : fstC cs s = none) : ∀ c ∈ cs, c.f0 ≠ s := fun c hc => by have := (List.find?_eq_none.1 h) c hc; simpa using this
/-- What is asked of a class. -/
def GCl (ts : List AttrTypeT) (cs : List ClassT) (c : ClassT) : Prop :=
  goodName c.f0 = true ∧ (c.f2.length ≤ 30 ∧ (∀ s ∈ c.f2, s ∈ ts.map (·.f0)) ∧ RisS c.f2) ∧ (c.f3.length ≤ 30 ∧ (∀ s ∈ c.f3, s ∈ ts.map (·.f0)) ∧ RisS c.f3) ∧ EndsF (fstC cs) (cs.length + 1) c.f1
/-- The schema is good. -/
def GDs (x : DirSchemaT) : Prop :=
  (x.f0.length ≤ 40 ∧ x.f1.length ≤ 20) ∧ ((∀ t ∈ x.f0, GTy t) ∧ RisS (x.f0.map (·.f0)) ∧ (⟨clsW, 2, false⟩ : AttrTypeT) ∈ x.f0) ∧ (∀ c ∈ x.f1, GCl x.f0 x.f1 c) ∧ RisS (x.f1.map (·.f0))
end Go.Proofs.Ytobmdeoppbjjpaa.V
