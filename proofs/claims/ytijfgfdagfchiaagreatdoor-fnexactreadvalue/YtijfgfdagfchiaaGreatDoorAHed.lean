/- Which atom a text may be, by its first byte: pure. -/
import Derived.Test.YtijfgfdagfchiaaGreatDoorAShp
namespace Go.Proofs.YtijfgfdagfchiaaGreatDoor

structure GA (l : List UInt8) (k n : Int) (t y : ByteArray) : Prop where
  n0 : -9223372036854775808 ≤ n
  n1 : n ≤ 9223372036854775807
  tz : t.size ≤ 1100000
  yz : y.size ≤ 1100000
  fit : ∀ (k' n' : Int) (t' y' : ByteArray), goodAtom k' n' t' y' = true → -9223372036854775808 ≤ n' → n' ≤ 9223372036854775807 → atomL k' n' t' y' = l → k = k' ∧ n = n' ∧ t = t' ∧ y = y'
def GARet (l : List UInt8) (e : Ending) : Prop := ∃ (k n : Int) (t y : ByteArray), e = .returned (.agg #[.int .i64 k, .int .i64 n, .string t, .string y]) ∧ GA l k n t y

/-- All that the first byte and the rest tell. -/
inductive Hed (k n : Int) (t y : ByteArray) (c : UInt8) (r : List UInt8) : Prop
  | tru : k = 1 → n = 1 → t = eB → y = eB → c :: r = [116, 114, 117, 101] → Hed k n t y c r
  | fal : k = 1 → n = 0 → t = eB → y = eB → c :: r = [102, 97, 108, 115, 101] → Hed k n t y c r
  | txt : k = 3 → n = 0 → y = eB → c = 34 → c :: r = quo t.data.toList → Hed k n t y c r
  | tim : k = 7 → t = eB → y = eB → c = 64 → r = Lib.itoa n → Hed k n t y c r
  | ref : k = 4 → n = 0 → namB (c.toNat : Int) = true → (58 : UInt8) ∉ y.data.toList → c :: r = y.data.toList ++ 58 :: 58 :: quo t.data.toList → Hed k n t y c r
  | adr : k = 6 → t = eB → y = eB → NC c → 0 ≤ n / 64 → n / 64 < 4294967296 → 0 ≤ n % 64 → n % 64 ≤ 32 → c :: r = blkL (n / 64) (n % 64) → (47 : UInt8) ∈ c :: r → (58 : UInt8) ∉ c :: r → Hed k n t y c r
  | dec (A B : List UInt8) : k = 5 → t = eB → y = eB → NC c → c :: r = decL n → c :: r = A ++ 46 :: B → (∀ x ∈ A, NC x) → (∀ x ∈ B, Dig x) → Lib.atoiAll (A ++ B) = .ok n → (47 : UInt8) ∉ c :: r → (58 : UInt8) ∉ c :: r → Hed k n t y c r
  | num : k = 2 → t = eB → y = eB → NC c → c :: r = Lib.itoa n → (47 : UInt8) ∉ c :: r → (46 : UInt8) ∉ c :: r → Hed k n t y c r
theorem nc_not {x : UInt8} (h : NC x) : ¬ x = 46 ∧ ¬ x = 47 ∧ ¬ x = 58 ∧ ¬ x = 34 ∧ ¬ x = 64 ∧ ¬ x = 116 ∧ ¬ x = 102 ∧ namB (x.toNat : Int) = false := by
  rcases h with rfl | h
  · exact ⟨by decide, by decide, by decide, by decide, by decide, by decide, by decide, by decide⟩
  · unfold Dig at h
    refine ⟨?_, ?_, ?_, ?_, ?_, ?_, ?_, ?_⟩
    all_goals first
      | (intro e; rw [e] at h; exact absurd h (by decide))
      | (unfold namB; exact decide_eq_false (by omega))
theorem dig_nc {x : UInt8} (h : Dig x) : NC x := .inr h
theorem hed {k n : Int} {t y : ByteArray} {c : UInt8} {r : List UInt8} (hg : goodAtom k n t y = true) (h0 : -9223372036854775808 ≤ n) (h1 : n ≤ 9223372036854775807) (e : atomL k n t y = c :: r) : Hed k n t y c r := by
  have hs := shape hg
  rw [e] at hs
  cases hs with
  | tru a b p q l => exact .tru a b p q l
  | fal a b p q l => exact .fal a b p q l
  | num a p q l =>
    have hnc := itoa_nc n
    rw [← l] at hnc
    refine .num a p q (hnc c (by simp)) l ?_ ?_
    · exact fun h => (nc_not (hnc _ h)).2.1 rfl
    · exact fun h => (nc_not (hnc _ h)).1 rfl
  | txt a b q l =>
    refine .txt a b q ?_ l
    unfold quo at l
    injection l
  | ref a b p l =>
    obtain ⟨⟨c', r', e1, e2⟩, e3⟩ := name_parts p
    have hc : c = c' := by
      rw [e1] at l
      injection l
    refine .ref a b (by rw [hc]; exact e2) (fun h => by have := e3 _ h; rw [okc_58] at this; cases this) l
  | dec a p q l =>
    obtain ⟨A, B, e1, e2, e3, e4, c', r', e5⟩ := dec_parts n h0 h1
    have hl : c :: r = A ++ 46 :: B := by rw [l, e1]
    have hc : NC c := by
      rw [e5] at hl
      injection hl with hc
      exact e2 c (by rw [e5, hc]; simp)
    refine .dec A B a p q hc l hl e2 e3 e4 ?_ ?_
    · intro h
      rw [hl, List.mem_append, List.mem_cons] at h
      rcases h with h | h | h
      · exact (nc_not (e2 _ h)).2.1 rfl
      · exact absurd h (by decide)
      · exact (nc_not (dig_nc (e3 _ h))).2.1 rfl
    · intro h
      rw [hl, List.mem_append, List.mem_cons] at h
      rcases h with h | h | h
      · exact (nc_not (e2 _ h)).2.2.1 rfl
      · exact absurd h (by decide)
      · exact (nc_not (dig_nc (e3 _ h))).2.2.1 rfl
  | adr a p q b1 b2 b3 b4 l =>
    obtain ⟨A, e1, e2, c', r', e3, e4⟩ := blk_parts (n / 64) (n % 64)
    have hl : c :: r = A ++ 47 :: Lib.itoa (n % 64) := by rw [l, e1]
    have hc : c = c' := by
      rw [e3] at hl
      injection hl
    refine .adr a p q (by rw [hc]; exact e4) b1 b2 b3 b4 l (by rw [hl]; simp) ?_
    intro h
    rw [hl, List.mem_append, List.mem_cons] at h
    rcases h with h | h | h
    · rcases e2 _ h with h2 | h2
      · exact (nc_not h2).2.2.1 rfl
      · exact absurd h2 (by decide)
    · exact absurd h (by decide)
    · exact (nc_not (itoa_nc _ _ h)).2.2.1 rfl
  | tim a p q l =>
    injection l with l1 l2
    exact .tim a p q l1 l2
theorem atomL_cons {k n : Int} {t y : ByteArray} (hg : goodAtom k n t y = true) (h0 : -9223372036854775808 ≤ n) (h1 : n ≤ 9223372036854775807) : ∃ c r, atomL k n t y = c :: r := by
  cases h : atomL k n t y with
  | cons c r => exact ⟨c, r, rfl⟩
  | nil =>
    exfalso
    have hs := shape hg
    rw [h] at hs
    cases hs with
    | tru _ _ _ _ l => cases l
    | fal _ _ _ _ l => cases l
    | num _ _ _ l => obtain ⟨c, r, e, _⟩ := itoa_cons n; rw [e] at l; cases l
    | txt _ _ _ l => cases l
    | ref _ _ _ l => have := congrArg List.length l; simp at this
    | dec _ _ _ l => obtain ⟨A, B, e, _⟩ := dec_parts n h0 h1; rw [e] at l; have := congrArg List.length l; simp at this
    | adr _ _ _ _ _ _ _ l => obtain ⟨A, e, _⟩ := blk_parts (n / 64) (n % 64); rw [e] at l; have := congrArg List.length l; simp at this
    | tim _ _ _ l => cases l
/-- The way to show that a guess fits. -/
theorem ga_of {l : List UInt8} {k n : Int} {t y : ByteArray} (n0 : -9223372036854775808 ≤ n) (n1 : n ≤ 9223372036854775807) (tz : t.size ≤ 1100000) (yz : y.size ≤ 1100000)
    (h : ∀ (c : UInt8) (r : List UInt8), l = c :: r → ∀ (k' n' : Int) (t' y' : ByteArray), -9223372036854775808 ≤ n' → n' ≤ 9223372036854775807 → Hed k' n' t' y' c r → k = k' ∧ n = n' ∧ t = t' ∧ y = y') : GA l k n t y := by
  refine ⟨n0, n1, tz, yz, fun k' n' t' y' hg h0 h1 e => ?_⟩
  obtain ⟨c, r, e2⟩ := atomL_cons hg h0 h1
  exact h c r (by rw [← e, e2]) k' n' t' y' h0 h1 (hed hg h0 h1 e2)
theorem first_of (c : UInt8) : ∀ l : List UInt8, c ∈ l → ∃ a b, l = a ++ c :: b ∧ c ∉ a
  | [], h => by cases h
  | x :: l, h => by
    by_cases e : x = c
    · exact ⟨[], l, by rw [e]; rfl, by simp⟩
    · have hm : c ∈ l := by
        rw [List.mem_cons] at h
        exact h.resolve_left (fun h => e h.symm)
      obtain ⟨a, b, e1, e2⟩ := first_of c l hm
      exact ⟨x :: a, b, by rw [e1]; rfl, by
        intro h
        rw [List.mem_cons] at h
        rcases h with h | h
        · exact e h.symm
        · exact e2 h⟩
theorem ix_mem (l : List UInt8) (c : UInt8) : 0 ≤ Lib.indexByte l c ↔ c ∈ l := by
  constructor
  · intro h
    apply Classical.byContradiction
    intro hn
    rw [ix_none c l hn] at h
    omega
  · intro h
    obtain ⟨a, b, e, ha⟩ := first_of c l h
    rw [e, ix_app c a b ha]
    omega
end Go.Proofs.YtijfgfdagfchiaaGreatDoor
