/- Walks over edges: the least number of steps, and how rounds find it. -/
namespace Go.Proofs.Ytenbliiombjldaa

section
variable {B : Type}

/-- b is n edges from a. -/
def Walk (E : B → B → Prop) : Nat → B → B → Prop
  | 0, a, b => a = b
  | n + 1, a, b => ∃ c, Walk E n a c ∧ E c b
def Dist (E : B → B → Prop) (a b : B) (n : Nat) : Prop := 1 ≤ n ∧ Walk E n a b ∧ ∀ m, 1 ≤ m → m < n → ¬ Walk E m a b

theorem Dist.uniq {E : B → B → Prop} {a b : B} {n m : Nat} (h : Dist E a b n) (k : Dist E a b m) : n = m := by
  rcases Nat.lt_trichotomy n m with x | x | x
  · exact absurd h.2.1 (k.2.2 n h.1 x)
  · exact x
  · exact absurd k.2.1 (h.2.2 m k.1 x)
theorem Walk.dist {E : B → B → Prop} {a b : B} : ∀ {n : Nat}, 1 ≤ n → Walk E n a b → ∃ m, m ≤ n ∧ Dist E a b m := by
  intro n
  induction n using Nat.strongRecOn with
  | ind n ih =>
    intro h1 hw
    by_cases h : ∃ m, 1 ≤ m ∧ m < n ∧ Walk E m a b
    · obtain ⟨m, m1, m2, m3⟩ := h
      obtain ⟨k, k1, k2⟩ := ih m m2 m1 m3
      exact ⟨k, by omega, k2⟩
    · exact ⟨n, Nat.le_refl _, h1, hw, fun m m1 m2 m3 => h ⟨m, m1, m2, m3⟩⟩
theorem dist_one {E : B → B → Prop} {a b : B} : Dist E a b 1 ↔ E a b := by
  constructor
  · rintro ⟨_, ⟨c, rfl, h⟩, _⟩; exact h
  · exact fun h => ⟨Nat.le_refl _, ⟨a, rfl, h⟩, fun m m1 m2 => by omega⟩
theorem Dist.pred {E : B → B → Prop} {a b : B} {n : Nat} (h : Dist E a b (n + 1)) (hn : 1 ≤ n) : ∃ c, Dist E a c n ∧ E c b := by
  obtain ⟨_, ⟨c, hc, he⟩, hm⟩ := h
  refine ⟨c, ⟨hn, hc, fun m m1 m2 m3 => hm (m + 1) (by omega) (by omega) ⟨c, m3, he⟩⟩, he⟩

theorem Walk.cons {E : B → B → Prop} : ∀ {n : Nat} {a b c : B}, E a b → Walk E n b c → Walk E (n + 1) a c
  | 0, a, _, _, h, w => ⟨a, rfl, by cases w; exact h⟩
  | _ + 1, _, _, _, h, ⟨d, w, e⟩ => ⟨d, Walk.cons h w, e⟩
theorem Walk.flip {E : B → B → Prop} : ∀ {n : Nat} {a b : B}, Walk E n a b → Walk (fun x y => E y x) n b a
  | 0, _, _, h => h.symm
  | _ + 1, _, _, ⟨_, w, e⟩ => Walk.cons (E := fun x y => E y x) e (Walk.flip w)
theorem dist_flip {E : B → B → Prop} {a b : B} {n : Nat} : Dist (fun x y => E y x) b a n ↔ Dist E a b n :=
  ⟨fun h => ⟨h.1, h.2.1.flip, fun m m1 m2 m3 => h.2.2 m m1 m2 m3.flip⟩, fun h => ⟨h.1, h.2.1.flip, fun m m1 m2 m3 => h.2.2 m m1 m2 m3.flip⟩⟩
theorem Walk.head {E : B → B → Prop} : ∀ {n : Nat} {a c : B}, Walk E (n + 1) a c → ∃ b, E a b ∧ Walk E n b c
  | 0, _, c, ⟨_, w, e⟩ => ⟨c, by cases w; exact e, rfl⟩
  | _ + 1, _, _, ⟨d, w, e⟩ => by
    obtain ⟨b, h1, h2⟩ := Walk.head w
    exact ⟨b, h1, ⟨d, h2, e⟩⟩
/-- The next node of a way: one step nearer. -/
theorem Dist.next {E : B → B → Prop} {a c : B} {n : Nat} (h : Dist E a c (n + 1)) (hn : 1 ≤ n) : ∃ b, E a b ∧ Dist E b c n := by
  obtain ⟨b, h1, h2⟩ := h.2.1.head
  exact ⟨b, h1, hn, h2, fun m m1 m2 m3 => h.2.2 (m + 1) (by omega) (by omega) (m3.cons h1)⟩
theorem dist_congr {E E' : B → B → Prop} (h : ∀ x y, E x y ↔ E' x y) {a b : B} {n : Nat} : Dist E a b n ↔ Dist E' a b n := by
  have : E = E' := by funext x y; exact propext (h x y)
  rw [this]

/-- The first node, or those at n steps. -/
def AtStep (E : B → B → Prop) (a : B) : Nat → B → Prop
  | 0, b => b = a
  | n + 1, b => Dist E a b (n + 1)
theorem AtStep.walk {E : B → B → Prop} {a b : B} : ∀ {n : Nat}, AtStep E a n b → Walk E n a b
  | 0, h => h.symm
  | _ + 1, h => h.2.1
theorem Dist.atStep {E : B → B → Prop} {a b : B} : ∀ {n : Nat}, Dist E a b (n + 1) → ∃ c, AtStep E a n c ∧ E c b
  | 0, h => ⟨a, rfl, dist_one.1 h⟩
  | n + 1, h => h.pred (by omega)

/-- Within round k + 1: what is known (L), what was met in it (N), the edges that were looked at (P). -/
structure Bfs (E : B → B → Prop) (a : B) (k : Nat) (L : B → Option Nat) (N : List B) (P : B → B → Prop) : Prop where
  le : ∀ b n, L b = some n → (n ≤ k ∧ Dist E a b n) ∨ (n = k + 1 ∧ b ∈ N)
  has : ∀ b n, n ≤ k → Dist E a b n → L b = some n
  new : ∀ b, b ∈ N → L b = some (k + 1) ∧ Dist E a b (k + 1)
  met : ∀ c b, P c b → (L b).isSome = true
/-- Between rounds. -/
structure BfsAt (E : B → B → Prop) (a : B) (k : Nat) (L : B → Option Nat) (F : List B) : Prop where
  le : ∀ b n, L b = some n ↔ n ≤ k ∧ Dist E a b n
  front : ∀ b, b ∈ F ↔ AtStep E a k b
theorem BfsAt.start (E : B → B → Prop) (a : B) : BfsAt E a 0 (fun _ => none) [a] :=
  ⟨fun b n => ⟨fun h => by simp at h, fun h => by have := h.2.1; omega⟩, fun b => by simp [AtStep]⟩
theorem BfsAt.enter {E : B → B → Prop} {a : B} {k : Nat} {L : B → Option Nat} {F : List B} (h : BfsAt E a k L F) : Bfs E a k L [] (fun _ _ => False) :=
  ⟨fun b n e => .inl ((h.le b n).1 e), fun b n h1 h2 => (h.le b n).2 ⟨h1, h2⟩, fun b hb => by simp at hb, fun _ _ f => f.elim⟩
theorem Bfs.leave {E : B → B → Prop} {a : B} {k : Nat} {L : B → Option Nat} {F N : List B} {P : B → B → Prop} (hF : ∀ b, b ∈ F ↔ AtStep E a k b) (h : Bfs E a k L N P) (hP : ∀ c b, c ∈ F → E c b → P c b) : BfsAt E a (k + 1) L N := by
  have hN : ∀ b, Dist E a b (k + 1) → b ∈ N := by
    intro b hd
    obtain ⟨c, hc, he⟩ := hd.atStep
    have hs := h.met c b (hP c b ((hF c).2 hc) he)
    obtain ⟨n, hn⟩ := Option.isSome_iff_exists.1 hs
    rcases h.le b n hn with ⟨x, y⟩ | ⟨_, y⟩
    · have := y.uniq hd; omega
    · exact y
  refine ⟨fun b n => ⟨fun e => ?_, fun ⟨h1, h2⟩ => ?_⟩, fun b => ⟨fun hb => (h.new b hb).2, fun hd => hN b hd⟩⟩
  · rcases h.le b n e with ⟨x, y⟩ | ⟨x, y⟩
    · exact ⟨by omega, y⟩
    · subst x; exact ⟨Nat.le_refl _, (h.new b y).2⟩
  · by_cases e : n = k + 1
    · subst e; exact (h.new b (hN b h2)).1
    · exact h.has b n (by omega) h2
/-- An edge whose end is known. -/
theorem Bfs.skip {E : B → B → Prop} {a : B} {k : Nat} {L : B → Option Nat} {N : List B} {P P' : B → B → Prop} (h : Bfs E a k L N P) (c b : B) (hs : (L b).isSome = true) (hP : ∀ x y, P' x y → P x y ∨ (x = c ∧ y = b)) : Bfs E a k L N P' :=
  ⟨h.le, h.has, h.new, fun x y p => by
    rcases hP x y p with q | ⟨rfl, rfl⟩
    · exact h.met x y q
    · exact hs⟩
def updL [DecidableEq B] (L : B → Option Nat) (b : B) (n : Nat) : B → Option Nat := fun x => if x = b then some n else L x
/-- An edge whose end is not known. -/
theorem Bfs.take [DecidableEq B] {E : B → B → Prop} {a : B} {k : Nat} {L : B → Option Nat} {N : List B} {P P' : B → B → Prop} (h : Bfs E a k L N P) (c b : B) (hc : AtStep E a k c) (he : E c b) (hs : L b = none) (hP : ∀ x y, P' x y → P x y ∨ (x = c ∧ y = b)) : Bfs E a k (updL L b (k + 1)) (N ++ [b]) P' := by
  have hd : Dist E a b (k + 1) := by
    refine ⟨by omega, ⟨c, hc.walk, he⟩, fun m m1 m2 m3 => ?_⟩
    obtain ⟨n, n1, n2⟩ := m3.dist m1
    have := h.has b n (by omega) n2
    rw [hs] at this; cases this
  refine ⟨fun x n e => ?_, fun x n h1 h2 => ?_, fun x hx => ?_, fun x y p => ?_⟩
  · unfold updL at e
    split at e
    · next hx => subst hx; cases e; exact .inr ⟨rfl, by simp⟩
    · rcases h.le x n e with q | ⟨q1, q2⟩
      · exact .inl q
      · exact .inr ⟨q1, by simp [q2]⟩
  · unfold updL
    split
    · next hx => subst hx; have := h2.uniq hd; omega
    · exact h.has x n h1 h2
  · rw [List.mem_append] at hx
    unfold updL
    by_cases e : x = b
    · subst e; simp; exact hd
    · rw [if_neg e]
      rcases hx with hx | hx
      · exact h.new x hx
      · simp at hx; exact absurd hx e
  · unfold updL
    rcases hP x y p with q | ⟨rfl, rfl⟩
    · have := h.met x y q
      split
      · rfl
      · exact this
    · simp
theorem BfsAt.stop {E : B → B → Prop} {a : B} {k : Nat} {L : B → Option Nat} (h : BfsAt E a (k + 1) L []) : ∀ b n, L b = some n ↔ Dist E a b n := by
  have key : ∀ m b, ¬ Dist E a b (k + 1 + m) := by
    intro m
    induction m with
    | zero => intro b hd; have := (h.front b).2 hd; simp at this
    | succ m ih =>
      intro b hd
      obtain ⟨c, hc, _⟩ := Dist.pred (n := k + 1 + m) hd (by omega)
      exact ih c hc
  intro b n
  rw [h.le b n]
  refine ⟨fun x => x.2, fun x => ⟨?_, x⟩⟩
  by_cases e : n ≤ k + 1
  · exact e
  · exact absurd (show Dist E a b (k + 1 + (n - (k + 1))) by rw [show k + 1 + (n - (k + 1)) = n by omega]; exact x) (key _ b)
end

theorem nodup_le {B : Type} [DecidableEq B] : ∀ (xs ys : List B), xs.Nodup → (∀ x ∈ xs, x ∈ ys) → xs.length ≤ ys.length
  | [], _, _, _ => Nat.zero_le _
  | x :: xs, ys, hn, hs => by
    have hx := hs x (by simp)
    have h1 := nodup_le xs (ys.erase x) (List.nodup_cons.1 hn).2 (fun z hz => by
      have h2 := hs z (by simp [hz])
      have h3 : z ≠ x := fun e => (List.nodup_cons.1 hn).1 (e ▸ hz)
      exact (List.mem_erase_of_ne h3).2 h2)
    rw [List.length_erase_of_mem hx] at h1
    have : 0 < ys.length := List.length_pos_of_mem hx
    simp; omega
/-- Two lists that rise and have the same members are the same. -/
theorem rising_ext {T : Type} (lt : T → T → Prop) (irr : ∀ x, ¬ lt x x) (tr : ∀ x y z, lt x y → lt y z → lt x z) : ∀ (xs ys : List T), xs.Pairwise lt → ys.Pairwise lt → (∀ x, x ∈ xs ↔ x ∈ ys) → xs = ys
  | [], [], _, _, _ => rfl
  | [], y :: ys, _, _, h => by have := (h y).2 (by simp); simp at this
  | x :: xs, [], _, _, h => by have := (h x).1 (by simp); simp at this
  | x :: xs, y :: ys, hx, hy, h => by
    rw [List.pairwise_cons] at hx hy
    have e : x = y := by
      have h1 := (h x).1 (by simp)
      have h2 := (h y).2 (by simp)
      rw [List.mem_cons] at h1 h2
      rcases h1 with h1 | h1
      · exact h1
      · rcases h2 with h2 | h2
        · exact h2.symm
        · exact absurd (tr _ _ _ (hx.1 y h2) (hy.1 x h1)) (irr x)
    subst e
    have : xs = ys := rising_ext lt irr tr xs ys hx.2 hy.2 (fun z => by
      have hz := h z
      simp only [List.mem_cons] at hz
      constructor
      · intro m
        rcases hz.1 (.inr m) with rfl | q
        · exact absurd (hx.1 z m) (irr z)
        · exact q
      · intro m
        rcases hz.2 (.inr m) with rfl | q
        · exact absurd (hy.1 z m) (irr z)
        · exact q)
    rw [this]
end Go.Proofs.Ytenbliiombjldaa
