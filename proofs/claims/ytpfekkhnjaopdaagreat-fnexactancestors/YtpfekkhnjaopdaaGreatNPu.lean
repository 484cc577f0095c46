/- What is above: pure; the map of the things. -/
import Derived.Test.YtpfekkhnjaopdaaGreatNKa
import Derived.Test.YtpfekkhnjaopdaaGreatZTg
namespace Go.Proofs.YtpfekkhnjaopdaaGreat.V
set_option linter.unusedSimpArgs false
set_option linter.unusedVariables false
open Go.RowKit Go.Maps

inductive Up (P : AtomT → List AtomT) (a : AtomT) : AtomT → Prop
  | same : Up P a a
  | next {c b : AtomT} : Up P a c → b ∈ P c → Up P a b
theorem Up.head {P : AtomT → List AtomT} {a c b : AtomT} (h : c ∈ P a) (k : Up P c b) : Up P a b := by
  induction k with
  | same => exact .next .same h
  | next _ h2 ih => exact .next ih h2
theorem Up.least {P : AtomT → List AtomT} {a : AtomT} {F : AtomT → Prop} (h0 : F a) (hc : ∀ x, F x → ∀ p ∈ P x, F p) {b : AtomT} (h : Up P a b) : F b := by
  induction h with
  | same => exact h0
  | next _ h2 ih => exact hc _ ih _ h2
open Classical in
/-- How many of U are not in F. -/
noncomputable def cntU (U : List AtomT) (F : AtomT → Prop) : Nat := U.countP fun x => decide (¬ F x)
theorem countP_le_of {α : Type} {p q : α → Bool} : ∀ {l : List α}, (∀ x ∈ l, p x = true → q x = true) → l.countP p ≤ l.countP q
  | [], _ => by simp
  | x :: l, h => by
    have ih := countP_le_of (l := l) (fun y hy => h y (List.mem_cons_of_mem _ hy))
    have hx := h x (List.mem_cons_self ..)
    simp only [List.countP_cons]
    cases hp : p x
    · simp; omega
    · rw [hx hp]; simp; omega
theorem countP_lt_of {α : Type} {p q : α → Bool} : ∀ {l : List α}, (∀ x ∈ l, p x = true → q x = true) → (∃ x ∈ l, p x = false ∧ q x = true) → l.countP p < l.countP q
  | [], _, h => by obtain ⟨x, hx, _⟩ := h; cases hx
  | x :: l, h, hn => by
    have ih := countP_le_of (l := l) (fun y hy => h y (List.mem_cons_of_mem _ hy))
    have hx := h x (List.mem_cons_self ..)
    simp only [List.countP_cons]
    obtain ⟨y, hy, h1, h2⟩ := hn
    rcases List.mem_cons.1 hy with e | hy
    · subst e; rw [h1, h2]; simp; omega
    · have il := countP_lt_of (l := l) (fun z hz => h z (List.mem_cons_of_mem _ hz)) ⟨y, hy, h1, h2⟩
      cases hp : p x
      · simp; omega
      · rw [hx hp]; simp; omega
theorem cntU_add {U : List AtomT} {F : AtomT → Prop} {a : AtomT} (ha : a ∈ U) (hf : ¬ F a) : cntU U (fun p => F p ∨ p = a) + 1 ≤ cntU U F := by
  unfold cntU
  exact countP_lt_of (fun x _ h => by simp at h ⊢; exact h.1) ⟨a, ha, by simp, by simpa using hf⟩
theorem cntU_pos {U : List AtomT} {F : AtomT → Prop} {a : AtomT} (ha : a ∈ U) (hf : ¬ F a) : 0 < cntU U F := by have := cntU_add ha hf; omega
/-- What the map of things holds, told by the things. -/
def thV (e : ThingE) : Value := .agg #[.int .i64 e.t.f0.x, .int .i64 e.t.f0.n, .string e.t.f0.t, .string e.t.f0.y, .slice e.h1.a e.h1.len e.h1.cap, .slice e.h2.a e.h2.len e.h2.cap, .slice e.h3.a e.h3.len e.h3.cap]
def KCA (l : List ThingE) (M : AtomT → Option Value) (C : AtomT → Option ThingE) : Prop := ∀ s, M s = (C s).map thV ∧ ((C s).isSome = true ↔ ∃ e ∈ l, e.t.f0 = s) ∧ ∀ e, C s = some e → e ∈ l ∧ e.t.f0 = s
def parC (C : AtomT → Option ThingE) (a : AtomT) : List AtomT := match C a with | some e => e.t.f1 | none => []
theorem zeroTh (w : World) : (zeroValue 56).run Tryz.prog w = .ok (.agg #[.int .i64 0, .int .i64 0, .string ⟨#[]⟩, .string ⟨#[]⟩, .slice none 0 0, .slice none 0 0, .slice none 0 0]) w := by kernel_rfl
theorem rowGrown {w w' : World} {b : Nat} {C : Array Value} {T : TypeId} {row : Option Nat} (h : RowIs w b C T) (hg : w.grownBy w' row) (hne : some b ≠ row) : RowIs w' b C T := by
  have hl := h.lt
  unfold RowIs at *; rw [hg.block b hl hne]; exact h
end Go.Proofs.YtpfekkhnjaopdaaGreat.V
