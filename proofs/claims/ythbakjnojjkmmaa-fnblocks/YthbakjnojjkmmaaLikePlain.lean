/- PLAIN: patterns, and what meets them. -/
import Derived.WalkKit
namespace Go.Proofs.Ythbakjnojjkmmaa

/-- A token: none for a star, else the byte that is asked for. -/
def toks : List UInt8 → Option (List (Option UInt8))
  | [] => some []
  | [c] => if c = 42 then some [none] else if c = 92 then none else some [some c]
  | c :: d :: r =>
    if c = 42 then (toks (d :: r)).map (none :: ·)
    else if c = 92 then (if d = 42 ∨ d = 92 then (toks r).map (some d :: ·) else none)
    else (toks (d :: r)).map (some c :: ·)

theorem toks_star (r : List UInt8) : toks (42 :: r) = (toks r).map (none :: ·) := by
  cases r with
  | nil => rfl
  | cons d r => simp [toks]
theorem toks_own {c : UInt8} (h1 : ¬ c = 42) (h2 : ¬ c = 92) (r : List UInt8) : toks (c :: r) = (toks r).map (some c :: ·) := by
  cases r with
  | nil => simp [toks, h1, h2]
  | cons d r => simp [toks, h1, h2]
theorem toks_bad_end : toks [92] = none := rfl
theorem toks_bad {d : UInt8} (h1 : ¬ d = 42) (h2 : ¬ d = 92) (r : List UInt8) : toks (92 :: d :: r) = none := by
  simp [toks, h1, h2]
theorem toks_esc {d : UInt8} (h : d = 42 ∨ d = 92) (r : List UInt8) : toks (92 :: d :: r) = (toks r).map (some d :: ·) := by
  simp [toks, h]

/-- What is told of a pattern when the tokens pre are made and l is left. -/
def LeftOf (p : List UInt8) (pre : List (Option UInt8)) (l : List UInt8) : Prop := toks p = (toks l).map (pre ++ ·)
theorem LeftOf.start (p : List UInt8) : LeftOf p [] p := by
  unfold LeftOf
  cases toks p <;> simp
theorem LeftOf.step {p : List UInt8} {pre : List (Option UInt8)} {l r : List UInt8} {t : Option UInt8} (h : LeftOf p pre l) (e : toks l = (toks r).map (t :: ·)) : LeftOf p (pre ++ [t]) r := by
  unfold LeftOf at *
  rw [h, e]
  cases toks r <;> simp
theorem LeftOf.no {p : List UInt8} {pre : List (Option UInt8)} {l : List UInt8} (h : LeftOf p pre l) (e : toks l = none) : toks p = none := by
  unfold LeftOf at h; rw [h, e]; rfl
theorem LeftOf.done {p : List UInt8} {pre : List (Option UInt8)} (h : LeftOf p pre []) : toks p = some pre := by
  unfold LeftOf at h; rw [h]; simp [toks]

theorem toks_len : ∀ (n : Nat) (l : List UInt8), l.length ≤ n → ∀ ts, toks l = some ts → ts.length ≤ l.length
  | _, [], _, ts, e => by simp [toks] at e; subst e; simp
  | n, [c], _, ts, e => by
    unfold toks at e
    split at e
    · simp at e; subst e; simp
    · split at e
      · simp at e
      · simp at e; subst e; simp
  | 0, _ :: _ :: _, h, _, _ => by simp at h
  | n + 1, c :: d :: r, h, ts, e => by
    unfold toks at e
    simp only [List.length_cons] at h
    split at e
    · obtain ⟨us, h1, rfl⟩ := Option.map_eq_some_iff.1 e
      have := toks_len n (d :: r) (by simp; omega) us h1
      simp at this ⊢; omega
    · split at e
      · split at e
        · obtain ⟨us, h1, rfl⟩ := Option.map_eq_some_iff.1 e
          have := toks_len n r (by omega) us h1
          simp; omega
        · simp at e
      · obtain ⟨us, h1, rfl⟩ := Option.map_eq_some_iff.1 e
        have := toks_len n (d :: r) (by simp; omega) us h1
        simp at this ⊢; omega

/-- s meets the tokens. -/
def Mt : List (Option UInt8) → List UInt8 → Prop
  | [], s => s = []
  | none :: ts, s => ∃ u v, s = u ++ v ∧ Mt ts v
  | some c :: ts, s => ∃ v, s = c :: v ∧ Mt ts v

theorem Mt.append : ∀ (ts us : List (Option UInt8)) (s : List UInt8), Mt (ts ++ us) s ↔ ∃ u v, s = u ++ v ∧ Mt ts u ∧ Mt us v
  | [], us, s => by
    simp only [List.nil_append, Mt]
    constructor
    · intro h; exact ⟨[], s, rfl, rfl, h⟩
    · rintro ⟨u, v, rfl, rfl, h⟩; exact h
  | none :: ts, us, s => by
    simp only [List.cons_append, Mt]
    constructor
    · rintro ⟨u, v, rfl, h⟩
      obtain ⟨u', v', rfl, h1, h2⟩ := (Mt.append ts us v).1 h
      exact ⟨u ++ u', v', by simp, ⟨u, u', rfl, h1⟩, h2⟩
    · rintro ⟨u, v, rfl, ⟨u', v', rfl, h1⟩, h2⟩
      exact ⟨u', v' ++ v, by simp, (Mt.append ts us _).2 ⟨v', v, rfl, h1, h2⟩⟩
  | some c :: ts, us, s => by
    simp only [List.cons_append, Mt]
    constructor
    · rintro ⟨v, rfl, h⟩
      obtain ⟨u', v', rfl, h1, h2⟩ := (Mt.append ts us v).1 h
      exact ⟨c :: u', v', by simp, ⟨u', rfl, h1⟩, h2⟩
    · rintro ⟨u, v, rfl, ⟨u', rfl, h1⟩, h2⟩
      exact ⟨u' ++ v, by simp, (Mt.append ts us _).2 ⟨u', v, rfl, h1, h2⟩⟩

/-! By prefixes, for the table. -/
theorem Mt.nil_nil : Mt [] [] := rfl
theorem Mt.nil_snoc (s : List UInt8) (b : UInt8) : ¬ Mt [] (s ++ [b]) := by simp [Mt]
theorem Mt.star_nil (ts : List (Option UInt8)) : Mt (ts ++ [none]) [] ↔ Mt ts [] := by
  rw [Mt.append]
  constructor
  · rintro ⟨u, v, e, h, _⟩
    simp at e
    obtain ⟨rfl, rfl⟩ := e
    exact h
  · intro h; exact ⟨[], [], rfl, h, [], [], rfl, rfl⟩
theorem Mt.own_nil (ts : List (Option UInt8)) (c : UInt8) : ¬ Mt (ts ++ [some c]) [] := by
  rw [Mt.append]
  rintro ⟨u, v, e, _, w, rfl, _⟩
  simp at e
theorem Mt.star_any (ts : List (Option UInt8)) (s : List UInt8) : Mt (ts ++ [none]) s ↔ ∃ u v, s = u ++ v ∧ Mt ts u := by
  rw [Mt.append]
  constructor
  · rintro ⟨u, v, e, h, _⟩; exact ⟨u, v, e, h⟩
  · rintro ⟨u, v, e, h⟩; exact ⟨u, v, e, h, v, [], by simp, rfl⟩
theorem Mt.star_snoc (ts : List (Option UInt8)) (s : List UInt8) (b : UInt8) : Mt (ts ++ [none]) (s ++ [b]) ↔ (Mt (ts ++ [none]) s ∨ Mt ts (s ++ [b])) := by
  rw [Mt.star_any, Mt.star_any]
  constructor
  · rintro ⟨u, v, e, h⟩
    rcases List.eq_nil_or_concat v with rfl | ⟨v', c, rfl⟩
    · right; rw [List.append_nil] at e; rw [e]; exact h
    · left
      rw [List.concat_eq_append, ← List.append_assoc] at e
      have := List.append_inj' e rfl
      exact ⟨u, v', this.1, h⟩
  · rintro (⟨u, v, rfl, h⟩ | h)
    · exact ⟨u, v ++ [b], by simp, h⟩
    · exact ⟨s ++ [b], [], by simp, h⟩
theorem Mt.own_snoc (ts : List (Option UInt8)) (c : UInt8) (s : List UInt8) (b : UInt8) : Mt (ts ++ [some c]) (s ++ [b]) ↔ (Mt ts s ∧ c = b) := by
  rw [Mt.append]
  constructor
  · rintro ⟨u, v, e, h, v', rfl, h'⟩
    simp only [Mt] at h'
    subst h'
    have := List.append_inj' e rfl
    simp at this
    obtain ⟨rfl, rfl⟩ := this
    exact ⟨h, rfl⟩
  · rintro ⟨h, rfl⟩
    exact ⟨s, [c], rfl, h, [], rfl, rfl⟩

/-! By suffixes, for the walk that goes back to the last star. -/
theorem Mt.star_more {ts : List (Option UInt8)} {u v : List UInt8} (h : Mt (none :: ts) v) : Mt (none :: ts) (u ++ v) := by
  obtain ⟨a, b, rfl, h⟩ := h
  exact ⟨u ++ a, b, by simp, h⟩
theorem Mt.literals {cs : List UInt8} {ts : List (Option UInt8)} {s : List UInt8} (h : Mt (cs.map some ++ ts) s) : ∃ v, s = cs ++ v ∧ Mt ts v := by
  induction cs generalizing s with
  | nil => exact ⟨s, rfl, h⟩
  | cons c cs ih =>
    obtain ⟨v, rfl, h⟩ := h
    obtain ⟨v', rfl, h'⟩ := ih h
    exact ⟨v', rfl, h'⟩
theorem Mt.all_stars {ts : List (Option UInt8)} : Mt ts [] ↔ ∀ t ∈ ts, t = none := by
  induction ts with
  | nil => simp [Mt]
  | cons t ts ih =>
    cases t with
    | none =>
      constructor
      · rintro ⟨u, v, e, h⟩
        simp at e
        obtain ⟨rfl, rfl⟩ := e
        intro t ht
        rcases List.mem_cons.1 ht with rfl | ht
        · rfl
        · exact ih.1 h t ht
      · intro h; exact ⟨[], [], rfl, ih.2 fun t ht => h t (List.mem_cons_of_mem _ ht)⟩
    | some c =>
      constructor
      · rintro ⟨v, e, _⟩; simp at e
      · intro h; have := h (some c) (List.mem_cons_self); cases this

/-- Where the greedy walk stands: at bytes and part parts are done; s is the place behind the last star (0: none yet), which has taken up to taken. -/
structure Gr (ps : List (Option UInt8)) (tx : List UInt8) (i part s taken : Nat) : Prop where
  b1 : i ≤ tx.length
  b2 : part ≤ ps.length
  b3 : taken ≤ tx.length
  eqv : Mt ps tx ↔ (Mt (ps.drop part) (tx.drop i) ∨ (0 < s ∧ ∃ j, taken < j ∧ j ≤ tx.length ∧ Mt (ps.drop s) (tx.drop j)))
  lit : 0 < s → s ≤ part ∧ taken ≤ i ∧ ∃ cs : List UInt8, ps.drop s = cs.map some ++ ps.drop part ∧ tx.drop taken = cs ++ tx.drop i

theorem Gr.start (ps : List (Option UInt8)) (tx : List UInt8) : Gr ps tx 0 0 0 0 :=
  ⟨Nat.zero_le _, Nat.zero_le _, Nat.zero_le _, by simp, fun h => absurd h (Nat.lt_irrefl 0)⟩

theorem Gr.sizes {ps : List (Option UInt8)} {tx : List UInt8} {i part s taken : Nat} (h : Gr ps tx i part s taken) {cs : List UInt8} (e : tx.drop taken = cs ++ tx.drop i) (hi : taken ≤ i) : cs.length = i - taken := by
  have := congrArg List.length e
  simp at this
  have := h.b1
  omega

theorem Gr.star {ps : List (Option UInt8)} {tx : List UInt8} {i part s taken : Nat} (h : Gr ps tx i part s taken) (hp : part < ps.length) (e : ps[part] = none) : Gr ps tx i (part + 1) (part + 1) i := by
  have ed : ps.drop part = none :: ps.drop (part + 1) := by rw [List.drop_eq_getElem_cons hp, e]
  refine ⟨h.b1, hp, h.b1, ?_, fun _ => ⟨Nat.le_refl _, Nat.le_refl _, [], rfl, rfl⟩⟩
  have key : Mt (ps.drop part) (tx.drop i) ↔ (Mt (ps.drop (part + 1)) (tx.drop i) ∨ (0 < part + 1 ∧ ∃ j, i < j ∧ j ≤ tx.length ∧ Mt (ps.drop (part + 1)) (tx.drop j))) := by
    rw [ed]
    constructor
    · rintro ⟨u, v, e1, h1⟩
      have hv : v = tx.drop (i + u.length) := by rw [← List.drop_drop, e1]; simp
      have hl : i + u.length ≤ tx.length := by
        have := congrArg List.length e1
        simp at this
        have := h.b1
        omega
      by_cases hu : u.length = 0
      · left; rw [hu, Nat.add_zero] at hv; rw [← hv]; exact h1
      · right; exact ⟨by omega, i + u.length, by omega, hl, by rw [← hv]; exact h1⟩
    · rintro (h1 | ⟨_, j, h2, h3, h1⟩)
      · exact ⟨[], _, rfl, h1⟩
      · refine ⟨(tx.drop i).take (j - i), tx.drop j, ?_, h1⟩
        have : tx.drop j = (tx.drop i).drop (j - i) := by rw [List.drop_drop]; congr 1; omega
        rw [this, List.take_append_drop]
  rw [h.eqv, ← key]
  constructor
  · rintro (h1 | ⟨hs, j, h2, h3, h1⟩)
    · exact h1
    · obtain ⟨_, hti, cs, e1, e2⟩ := h.lit hs
      rw [e1] at h1
      obtain ⟨v, e3, h4⟩ := Mt.literals h1
      have hc := h.sizes e2 hti
      have hv : v = tx.drop (j + cs.length) := by rw [← List.drop_drop, e3]; simp
      have hl : j + cs.length ≤ tx.length := by
        have := congrArg List.length e3
        simp at this
        omega
      rw [ed] at h4 ⊢
      have e5 : tx.drop i = (tx.drop i).take (j + cs.length - i) ++ v := by
        have : v = (tx.drop i).drop (j + cs.length - i) := by rw [hv, List.drop_drop]; congr 1; omega
        rw [this, List.take_append_drop]
      rw [e5]
      exact Mt.star_more h4
  · intro h1; exact .inl h1

theorem Gr.own {ps : List (Option UInt8)} {tx : List UInt8} {i part s taken : Nat} (h : Gr ps tx i part s taken) (hp : part < ps.length) (hi : i < tx.length) (e : ps[part] = some tx[i]) : Gr ps tx (i + 1) (part + 1) s taken := by
  have ed : ps.drop part = some tx[i] :: ps.drop (part + 1) := by rw [List.drop_eq_getElem_cons hp, e]
  have et : tx.drop i = tx[i] :: tx.drop (i + 1) := List.drop_eq_getElem_cons hi
  refine ⟨hi, hp, h.b3, ?_, fun hs => ?_⟩
  · have key : Mt (ps.drop part) (tx.drop i) ↔ Mt (ps.drop (part + 1)) (tx.drop (i + 1)) := by
      rw [ed, et]
      constructor
      · rintro ⟨v, e1, h1⟩
        rw [(List.cons.inj e1).2]; exact h1
      · intro h1; exact ⟨_, rfl, h1⟩
    rw [h.eqv, key]
  · obtain ⟨h1, h2, cs, e1, e2⟩ := h.lit hs
    refine ⟨by omega, by omega, cs ++ [tx[i]], ?_, ?_⟩
    · rw [e1, ed]; simp
    · rw [e2, et]; simp

/-- The byte does not fit the part. -/
def Miss (ps : List (Option UInt8)) (tx : List UInt8) (i part : Nat) : Prop :=
  i < tx.length ∧ (part = ps.length ∨ ∃ (hp : part < ps.length) (hi : i < tx.length) (c : UInt8), ps[part] = some c ∧ ¬ c = tx[i])
theorem Miss.no {ps : List (Option UInt8)} {tx : List UInt8} {i part : Nat} (h : Miss ps tx i part) : ¬ Mt (ps.drop part) (tx.drop i) := by
  obtain ⟨hi, h⟩ := h
  rw [List.drop_eq_getElem_cons hi]
  rcases h with rfl | ⟨hp, _, c, e, hc⟩
  · rw [List.drop_length]; exact fun h => List.cons_ne_nil _ _ h
  · rw [List.drop_eq_getElem_cons hp, e]
    rintro ⟨v, e1, _⟩
    exact hc (List.cons.inj e1).1.symm
theorem Gr.back {ps : List (Option UInt8)} {tx : List UInt8} {i part s taken : Nat} (h : Gr ps tx i part s taken) (hm : Miss ps tx i part) (hs : 0 < s) : Gr ps tx (taken + 1) s s (taken + 1) := by
  obtain ⟨h1, h2, _⟩ := h.lit hs
  have hi := hm.1
  have hb := h.b2
  refine ⟨by omega, by omega, by omega, ?_, fun _ => ⟨Nat.le_refl _, Nat.le_refl _, [], rfl, rfl⟩⟩
  rw [h.eqv]
  constructor
  · rintro (h3 | ⟨_, j, h4, h5, h6⟩)
    · exact absurd h3 hm.no
    · by_cases e : j = taken + 1
      · left; rw [← e]; exact h6
      · right; exact ⟨hs, j, by omega, h5, h6⟩
  · rintro (h3 | ⟨_, j, h4, h5, h6⟩)
    · right; exact ⟨hs, taken + 1, by omega, by omega, h3⟩
    · right; exact ⟨hs, j, by omega, h5, h6⟩
theorem Gr.fail {ps : List (Option UInt8)} {tx : List UInt8} {i part taken : Nat} (h : Gr ps tx i part 0 taken) (hm : Miss ps tx i part) : ¬ Mt ps tx := by
  rw [h.eqv]
  rintro (h3 | ⟨h4, _⟩)
  · exact hm.no h3
  · exact absurd h4 (Nat.lt_irrefl 0)
theorem Gr.finish {ps : List (Option UInt8)} {tx : List UInt8} {part s taken : Nat} (h : Gr ps tx tx.length part s taken) : Mt ps tx ↔ ∀ t ∈ ps.drop part, t = none := by
  rw [h.eqv, List.drop_length, ← Mt.all_stars]
  constructor
  · rintro (h3 | ⟨hs, j, h4, h5, h6⟩)
    · exact h3
    · obtain ⟨_, hti, cs, e1, e2⟩ := h.lit hs
      rw [e1] at h6
      obtain ⟨v, e3, _⟩ := Mt.literals h6
      have hc := h.sizes e2 hti
      have := congrArg List.length e3
      simp at this
      omega
  · intro h3; exact .inl h3
end Go.Proofs.Ythbakjnojjkmmaa
