/- Expressions as trees: what is taken of a list, and what is right of it. Pure. -/
import Derived.Test.YtbgakkbniekccaaYEx
import Derived.Test.YtbgakkbniekccaaYTok
namespace Go.Proofs.Ytbgakkbniekccaa.V
open Go.RowKit

abbrev eAgg (x : ExprT) : Value := .agg #[.int .i64 x.f0, .string x.f1, .int .i64 x.f2, .int .i64 x.f3, .string x.f4, .string x.f5, .int .i64 x.f6]
abbrev eRow (x : ExprT) : Array Value := #[.int .i64 x.f0, .string x.f1, .int .i64 x.f2, .int .i64 x.f3, .string x.f4, .string x.f5, .int .i64 x.f6]
abbrev empE : ByteArray := ⟨#[]⟩

def zEx (x : ExprT) : Prop := x.f2 = 0 ∧ x.f3 = 0 ∧ x.f4 = empE ∧ x.f5 = empE
def varP (s : ByteArray) : Prop := s.toList = [112, 114, 105, 110, 99, 105, 112, 97, 108] ∨ s.toList = [97, 99, 116, 105, 111, 110] ∨ s.toList = [114, 101, 115, 111, 117, 114, 99, 101] ∨ s.toList = [99, 111, 110, 116, 101, 120, 116]
/-- How many kids a kind has: -1 none of the kinds, -2 any number. -/
def ari (k : Int) : Int := if k = 1 ∨ k = 3 then 0 else if k = 2 then -2 else if k = 4 ∨ k = 5 ∨ k = 6 ∨ k = 7 ∨ k = 20 ∨ k = 21 then 1 else if k = 10 then 3 else if 8 ≤ k ∧ k ≤ 19 then 2 else -1
def txtP (x : ExprT) : Prop :=
  if x.f0 = 1 then x.f1 = empE ∧ goodAtom x.f2 x.f3 x.f4 x.f5 = true else if x.f0 = 3 then varP x.f1 else if x.f0 = 4 ∨ x.f0 = 5 ∨ x.f0 = 21 then goodName x.f1 = true
  else if x.f0 = 20 then x.f1.size ≤ 200 ∧ textL x.f1 = true ∧ (toks x.f1.data.toList).isSome = true else x.f1 = empE
def kidP (x : ExprT) : Prop := if x.f0 = 2 then 0 ≤ x.f6 ∧ x.f6 ≤ 10 else x.f6 = ari x.f0
def NodeP (x : ExprT) : Prop := ari x.f0 ≠ -1 ∧ kidP x ∧ (x.f0 = 1 ∨ zEx x) ∧ txtP x
theorem NodeP.kids {x : ExprT} (h : NodeP x) : 0 ≤ x.f6 ∧ x.f6 ≤ 10 := by
  obtain ⟨h1, h2, _⟩ := h
  unfold kidP at h2
  split at h2
  · exact h2
  · unfold ari at h1 h2
    repeat' split at h2
    all_goals (try (simp_all; done))
    all_goals omega

inductive ET where
  | node (n : ExprT) (kids : List ET)
def ET.n : ET → ExprT | .node n _ => n
def ET.kids : ET → List ET | .node _ k => k

def takeK (f : List ExprT → Option (ET × List ExprT)) : Nat → List ExprT → Option (List ET × List ExprT)
  | 0, l => some ([], l)
  | n + 1, l => (f l).bind fun p => (takeK f n p.2).map fun q => (p.1 :: q.1, q.2)
/-- The tree of the first node and what is behind it, no deeper than r. -/
def takeT : Nat → List ExprT → Option (ET × List ExprT)
  | 0, _ => none
  | _ + 1, [] => none
  | r + 1, x :: l => if x.f6 < 0 ∨ 10 < x.f6 then none else (takeK (takeT r) x.f6.toNat l).map fun q => (.node x q.1, q.2)
open Classical in
/-- The same, of nodes that are right alone. -/
noncomputable def growT : Nat → List ExprT → Option (ET × List ExprT)
  | 0, _ => none
  | _ + 1, [] => none
  | r + 1, x :: l => if NodeP x then (takeK (growT r) x.f6.toNat l).bind fun q => if x.f0 = 2 → ∀ k ∈ q.1, k.n.f0 = 1 then some (.node x q.1, q.2) else none else none
inductive Right : ET → Prop
  | mk {x : ExprT} {ks : List ET} (h1 : NodeP x) (h2 : ∀ k ∈ ks, Right k) (h3 : x.f0 = 2 → ∀ k ∈ ks, k.n.f0 = 1) : Right (.node x ks)
theorem Right.out {x : ExprT} {ks : List ET} (h : Right (.node x ks)) : NodeP x ∧ (∀ k ∈ ks, Right k) ∧ (x.f0 = 2 → ∀ k ∈ ks, k.n.f0 = 1) := by
  cases h with
  | mk h1 h2 h3 => exact ⟨h1, h2, h3⟩

theorem takeK_iff {r : Nat} (ih : ∀ l t l', growT r l = some (t, l') ↔ takeT r l = some (t, l') ∧ Right t) : ∀ (n : Nat) (l : List ExprT) (ks : List ET) (l' : List ExprT),
    takeK (growT r) n l = some (ks, l') ↔ takeK (takeT r) n l = some (ks, l') ∧ ∀ k ∈ ks, Right k
  | 0, l, ks, l' => by simp [takeK]; rintro rfl _; simp
  | n + 1, l, ks, l' => by
    simp only [takeK, Option.bind_eq_some_iff, Option.map_eq_some_iff, Prod.exists, Prod.mk.injEq]
    constructor
    · rintro ⟨t, r1, h1, ts, r2, h2, rfl, rfl⟩
      obtain ⟨a1, a2⟩ := (ih _ _ _).1 h1
      obtain ⟨b1, b2⟩ := (takeK_iff ih n _ _ _).1 h2
      exact ⟨⟨t, r1, a1, ts, r2, b1, rfl, rfl⟩, by simpa using ⟨a2, b2⟩⟩
    · rintro ⟨⟨t, r1, h1, ts, r2, h2, rfl, rfl⟩, h3⟩
      exact ⟨t, r1, (ih _ _ _).2 ⟨h1, h3 _ (by simp)⟩, ts, r2, (takeK_iff ih n _ _ _).2 ⟨h2, fun k hk => h3 _ (by simp [hk])⟩, rfl, rfl⟩
theorem grow_iff : ∀ (r : Nat) (l : List ExprT) (t : ET) (l' : List ExprT), growT r l = some (t, l') ↔ takeT r l = some (t, l') ∧ Right t
  | 0, l, t, l' => by simp [growT, takeT]
  | r + 1, [], t, l' => by simp [growT, takeT]
  | r + 1, x :: l, t, l' => by
    simp only [growT, takeT]
    constructor
    · intro h
      split at h
      · rename_i hn
        obtain ⟨⟨ks, q⟩, h1, h2⟩ := Option.bind_eq_some_iff.1 h
        split at h2
        · rename_i h3
          obtain ⟨rfl, rfl⟩ := by simpa using h2
          obtain ⟨a1, a2⟩ := (takeK_iff (grow_iff r) _ _ _ _).1 h1
          have := hn.kids
          exact ⟨by rw [if_neg (by omega), a1]; rfl, .mk hn a2 h3⟩
        · cases h2
      · cases h
    · rintro ⟨h, hr⟩
      split at h
      · cases h
      · obtain ⟨⟨ks, q⟩, h1, h2⟩ := Option.map_eq_some_iff.1 h
        obtain ⟨rfl, rfl⟩ := by simpa using h2
        obtain ⟨o1, o2, o3⟩ := hr.out
        rw [if_pos o1, (takeK_iff (grow_iff r) _ _ _ _).2 ⟨h1, o2⟩]
        simp only [Option.bind_some]
        rw [if_pos o3]

/-- A good expression. -/
def GExpr (l : List ExprT) : Prop := l.length ≤ 60 ∧ ∃ t, growT 12 l = some (t, [])

theorem takeK_suf {f : List ExprT → Option (ET × List ExprT)} (hf : ∀ l t l', f l = some (t, l') → ∃ d, d ≤ l.length ∧ l' = l.drop d) : ∀ (n : Nat) (l : List ExprT) (ks : List ET) (l' : List ExprT), takeK f n l = some (ks, l') → ks.length = n ∧ ∃ d, d ≤ l.length ∧ l' = l.drop d
  | 0, l, ks, l', h => by simp [takeK] at h; obtain ⟨rfl, rfl⟩ := h; exact ⟨rfl, 0, by omega, by simp⟩
  | n + 1, l, ks, l', h => by
    simp only [takeK, Option.bind_eq_some_iff, Option.map_eq_some_iff, Prod.exists, Prod.mk.injEq] at h
    obtain ⟨t, r1, h1, ts, r2, h2, rfl, rfl⟩ := h
    obtain ⟨d1, e1, rfl⟩ := hf _ _ _ h1
    obtain ⟨a, d2, e2, rfl⟩ := takeK_suf hf n _ _ _ h2
    exact ⟨by simp [a], d1 + d2, by simp at e2; omega, by simp⟩
theorem takeT_suf : ∀ (r : Nat) (l : List ExprT) (t : ET) (l' : List ExprT), takeT r l = some (t, l') → ∃ d, d ≤ l.length ∧ l' = l.drop d
  | 0, l, t, l', h => by simp [takeT] at h
  | r + 1, [], t, l', h => by simp [takeT] at h
  | r + 1, x :: l, t, l', h => by
    simp only [takeT] at h
    split at h
    · cases h
    · obtain ⟨⟨ks, q⟩, h1, h2⟩ := Option.map_eq_some_iff.1 h
      obtain ⟨rfl, rfl⟩ := by simpa using h2
      obtain ⟨_, d, e, rfl⟩ := takeK_suf (takeT_suf r) _ _ _ _ h1
      exact ⟨d + 1, by simp; omega, by simp⟩

/-- So many kids are taken, and that is left. -/
def KidsTo (f : List ExprT → Option (ET × List ExprT)) (n : Nat) (l : List ExprT) (i : Nat) (pre : List ET) (l' : List ExprT) : Prop :=
  i ≤ n ∧ pre.length = i ∧ takeK f n l = (takeK f (n - i) l').map fun q => (pre ++ q.1, q.2)
theorem KidsTo.start (f : List ExprT → Option (ET × List ExprT)) (n : Nat) (l : List ExprT) : KidsTo f n l 0 [] l := ⟨Nat.zero_le _, rfl, by rw [Nat.sub_zero]; cases takeK f n l <;> simp⟩
theorem KidsTo.step {f : List ExprT → Option (ET × List ExprT)} {n : Nat} {l : List ExprT} {i : Nat} {pre : List ET} {l' : List ExprT} (h : KidsTo f n l i pre l') (hi : i < n) {t : ET} {r : List ExprT} (e : f l' = some (t, r)) : KidsTo f n l (i + 1) (pre ++ [t]) r := by
  refine ⟨hi, by simp [h.2.1], ?_⟩
  have e1 : n - i = (n - (i + 1)) + 1 := by omega
  rw [h.2.2, e1, takeK, e]
  simp only [Option.bind_some]
  cases takeK f (n - (i + 1)) r <;> simp
theorem KidsTo.no {f : List ExprT → Option (ET × List ExprT)} {n : Nat} {l : List ExprT} {i : Nat} {pre : List ET} {l' : List ExprT} (h : KidsTo f n l i pre l') (hi : i < n) (e : f l' = none) : takeK f n l = none := by
  have e1 : n - i = (n - (i + 1)) + 1 := by omega
  rw [h.2.2, e1, takeK, e]; rfl
theorem KidsTo.done {f : List ExprT → Option (ET × List ExprT)} {n : Nat} {l : List ExprT} {pre : List ET} {l' : List ExprT} (h : KidsTo f n l n pre l') : takeK f n l = some (pre, l') := by
  rw [h.2.2, Nat.sub_self, takeK]; simp

end Go.Proofs.Ytbgakkbniekccaa.V
