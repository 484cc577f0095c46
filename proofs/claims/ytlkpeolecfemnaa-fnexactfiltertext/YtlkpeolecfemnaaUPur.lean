/- Filters as trees: what is taken of a list, and what is right of it. Pure. -/
import Derived.Test.YtlkpeolecfemnaaUEx
import Derived.Test.YtlkpeolecfemnaaYTok
namespace Go.Proofs.Ytlkpeolecfemnaa.V
open Go.RowKit

abbrev eAgg (x : FilterNodeT) : Value := .agg #[.int .i64 x.f0, .string x.f1, .string x.f2, .int .i64 x.f3]
abbrev eRow (x : FilterNodeT) : Array Value := #[.int .i64 x.f0, .string x.f1, .string x.f2, .int .i64 x.f3]
abbrev empE : ByteArray := ⟨#[]⟩
/-- A node that is right alone. -/
def NodeP (x : FilterNodeT) : Prop :=
  if x.f0 = 1 ∨ x.f0 = 2 then x.f1 = empE ∧ x.f2 = empE ∧ 0 ≤ x.f3 ∧ x.f3 ≤ 20 else if x.f0 = 3 then x.f1 = empE ∧ x.f2 = empE ∧ x.f3 = 1
  else if x.f0 = 7 then goodName x.f1 = true ∧ x.f2 = empE ∧ x.f3 = 0
  else if x.f0 = 4 ∨ x.f0 = 5 ∨ x.f0 = 6 ∨ x.f0 = 8 then goodName x.f1 = true ∧ (1 ≤ x.f2.size ∧ x.f2.size ≤ 200 ∧ textL x.f2 = true) ∧ x.f3 = 0 ∧ (x.f0 = 8 → (toks x.f2.data.toList).isSome = true) else False
theorem NodeP.kids {x : FilterNodeT} (h : NodeP x) : 0 ≤ x.f3 ∧ x.f3 ≤ 20 := by
  unfold NodeP at h
  repeat' split at h
  all_goals (try (cases h; done))
  · omega
  · omega
  · omega
  · have := h.2.2.1; omega

inductive FT where
  | node (n : FilterNodeT) (kids : List FT)
def FT.n : FT → FilterNodeT | .node n _ => n
def FT.kids : FT → List FT | .node _ k => k

def takeK (f : List FilterNodeT → Option (FT × List FilterNodeT)) : Nat → List FilterNodeT → Option (List FT × List FilterNodeT)
  | 0, l => some ([], l)
  | n + 1, l => (f l).bind fun p => (takeK f n p.2).map fun q => (p.1 :: q.1, q.2)
/-- The tree of the first node and what is behind it, no deeper than r. -/
def takeT : Nat → List FilterNodeT → Option (FT × List FilterNodeT)
  | 0, _ => none
  | _ + 1, [] => none
  | r + 1, x :: l => if x.f3 < 0 ∨ 20 < x.f3 then none else (takeK (takeT r) x.f3.toNat l).map fun q => (.node x q.1, q.2)
open Classical in
/-- The same, of nodes that are right alone. -/
noncomputable def growT : Nat → List FilterNodeT → Option (FT × List FilterNodeT)
  | 0, _ => none
  | _ + 1, [] => none
  | r + 1, x :: l => if NodeP x then (takeK (growT r) x.f3.toNat l).map fun q => (.node x q.1, q.2) else none
inductive Right : FT → Prop
  | mk {x : FilterNodeT} {ks : List FT} (h1 : NodeP x) (h2 : ∀ k ∈ ks, Right k) : Right (.node x ks)
theorem Right.out {x : FilterNodeT} {ks : List FT} (h : Right (.node x ks)) : NodeP x ∧ (∀ k ∈ ks, Right k) := by
  cases h with
  | mk h1 h2 => exact ⟨h1, h2⟩

theorem takeK_iff {r : Nat} (ih : ∀ l t l', growT r l = some (t, l') ↔ takeT r l = some (t, l') ∧ Right t) : ∀ (n : Nat) (l : List FilterNodeT) (ks : List FT) (l' : List FilterNodeT),
    takeK (growT r) n l = some (ks, l') ↔ takeK (takeT r) n l = some (ks, l') ∧ ∀ k ∈ ks, Right k
  | 0, l, ks, l' => by simp [takeK]; rintro rfl _; simp
  | n + 1, l, ks, l' => by
    simp only [takeK, Option.bind_eq_some_iff, Option.map_eq_some_iff, Prod.exists, Prod.mk.injEq]
    constructor
    · rintro ⟨t, r1, h1, ts, r2, h2, rfl, rfl⟩
      obtain ⟨a1, a2⟩ := (ih _ _ _).1 h1
      obtain ⟨b1, b2⟩ := (takeK_iff ih n _ _ _).1 h2
      exact ⟨⟨t, r1, a1, ts, r2, b1, rfl, rfl⟩, by simpa using ⟨a2, b2⟩⟩
    · rintro ⟨⟨t, r1, h1, ts, r2, h2, rfl, rfl⟩, h3⟩
      exact ⟨t, r1, (ih _ _ _).2 ⟨h1, h3 _ (by simp)⟩, ts, r2, (takeK_iff ih n _ _ _).2 ⟨h2, fun k hk => h3 _ (by simp [hk])⟩, rfl, rfl⟩
theorem grow_iff : ∀ (r : Nat) (l : List FilterNodeT) (t : FT) (l' : List FilterNodeT), growT r l = some (t, l') ↔ takeT r l = some (t, l') ∧ Right t
  | 0, l, t, l' => by simp [growT, takeT]
  | r + 1, [], t, l' => by simp [growT, takeT]
  | r + 1, x :: l, t, l' => by
    simp only [growT, takeT]
    constructor
    · intro h
      split at h
      · rename_i hn
        obtain ⟨⟨ks, q⟩, h1, h2⟩ := Option.map_eq_some_iff.1 h
        obtain ⟨rfl, rfl⟩ := by simpa using h2
        obtain ⟨a1, a2⟩ := (takeK_iff (grow_iff r) _ _ _ _).1 h1
        have := hn.kids
        exact ⟨by rw [if_neg (by omega), a1]; rfl, .mk hn a2⟩
      · cases h
    · rintro ⟨h, hr⟩
      split at h
      · cases h
      · obtain ⟨⟨ks, q⟩, h1, h2⟩ := Option.map_eq_some_iff.1 h
        obtain ⟨rfl, rfl⟩ := by simpa using h2
        obtain ⟨o1, o2⟩ := hr.out
        rw [if_pos o1, (takeK_iff (grow_iff r) _ _ _ _).2 ⟨h1, o2⟩]
        rfl

/-- A good filter. -/
def GFilt (l : List FilterNodeT) : Prop := l.length ≤ 60 ∧ ∃ t, growT 20 l = some (t, [])

theorem takeK_suf {f : List FilterNodeT → Option (FT × List FilterNodeT)} (hf : ∀ l t l', f l = some (t, l') → ∃ d, d ≤ l.length ∧ l' = l.drop d) : ∀ (n : Nat) (l : List FilterNodeT) (ks : List FT) (l' : List FilterNodeT), takeK f n l = some (ks, l') → ks.length = n ∧ ∃ d, d ≤ l.length ∧ l' = l.drop d
  | 0, l, ks, l', h => by simp [takeK] at h; obtain ⟨rfl, rfl⟩ := h; exact ⟨rfl, 0, by omega, by simp⟩
  | n + 1, l, ks, l', h => by
    simp only [takeK, Option.bind_eq_some_iff, Option.map_eq_some_iff, Prod.exists, Prod.mk.injEq] at h
    obtain ⟨t, r1, h1, ts, r2, h2, rfl, rfl⟩ := h
    obtain ⟨d1, e1, rfl⟩ := hf _ _ _ h1
    obtain ⟨a, d2, e2, rfl⟩ := takeK_suf hf n _ _ _ h2
    exact ⟨by simp [a], d1 + d2, by simp at e2; omega, by simp⟩
theorem takeT_suf : ∀ (r : Nat) (l : List FilterNodeT) (t : FT) (l' : List FilterNodeT), takeT r l = some (t, l') → ∃ d, d ≤ l.length ∧ l' = l.drop d
  | 0, l, t, l', h => by simp [takeT] at h
  | r + 1, [], t, l', h => by simp [takeT] at h
  | r + 1, x :: l, t, l', h => by
    simp only [takeT] at h
    split at h
    · cases h
    · obtain ⟨⟨ks, q⟩, h1, h2⟩ := Option.map_eq_some_iff.1 h
      obtain ⟨rfl, rfl⟩ := by simpa using h2
      obtain ⟨_, d, e, rfl⟩ := takeK_suf (takeT_suf r) _ _ _ _ h1
      exact ⟨d + 1, by simp; omega, by simp⟩

/-- So many kids are taken, and that is left. -/
def KidsTo (f : List FilterNodeT → Option (FT × List FilterNodeT)) (n : Nat) (l : List FilterNodeT) (i : Nat) (pre : List FT) (l' : List FilterNodeT) : Prop :=
  i ≤ n ∧ pre.length = i ∧ takeK f n l = (takeK f (n - i) l').map fun q => (pre ++ q.1, q.2)
theorem KidsTo.start (f : List FilterNodeT → Option (FT × List FilterNodeT)) (n : Nat) (l : List FilterNodeT) : KidsTo f n l 0 [] l := ⟨Nat.zero_le _, rfl, by rw [Nat.sub_zero]; cases takeK f n l <;> simp⟩
theorem KidsTo.step {f : List FilterNodeT → Option (FT × List FilterNodeT)} {n : Nat} {l : List FilterNodeT} {i : Nat} {pre : List FT} {l' : List FilterNodeT} (h : KidsTo f n l i pre l') (hi : i < n) {t : FT} {r : List FilterNodeT} (e : f l' = some (t, r)) : KidsTo f n l (i + 1) (pre ++ [t]) r := by
  refine ⟨hi, by simp [h.2.1], ?_⟩
  have e1 : n - i = (n - (i + 1)) + 1 := by omega
  rw [h.2.2, e1, takeK, e]
  simp only [Option.bind_some]
  cases takeK f (n - (i + 1)) r <;> simp
theorem KidsTo.no {f : List FilterNodeT → Option (FT × List FilterNodeT)} {n : Nat} {l : List FilterNodeT} {i : Nat} {pre : List FT} {l' : List FilterNodeT} (h : KidsTo f n l i pre l') (hi : i < n) (e : f l' = none) : takeK f n l = none := by
  have e1 : n - i = (n - (i + 1)) + 1 := by omega
  rw [h.2.2, e1, takeK, e]; rfl
theorem KidsTo.done {f : List FilterNodeT → Option (FT × List FilterNodeT)} {n : Nat} {l : List FilterNodeT} {pre : List FT} {l' : List FilterNodeT} (h : KidsTo f n l n pre l') : takeK f n l = some (pre, l') := by
  rw [h.2.2, Nat.sub_self, takeK]; simp

end Go.Proofs.Ytlkpeolecfemnaa.V
