/- AShp, AHed, one behind the other. -/
import Derived.Test.YticidjceljjfnaaGreatDoorJ12
import Derived.Test.YticidjceljjfnaaGreatDoorJ25
/- The shapes of good atoms' texts: pure. -/
namespace Go.Proofs.YticidjceljjfnaaGreatDoor

abbrev eB : ByteArray := ⟨#[]⟩
theorem emp_of {t : ByteArray} (h : t.toList.isEmpty = true) : t = eB := by
  rw [ByteArray.toList_eq] at h
  apply ByteArray.ext
  have : t.data.toList = [] := by simpa using h
  rw [← Array.toList_inj, this]

/-- What kinds of texts there are. -/
inductive Shape (k n : Int) (t y : ByteArray) (l : List UInt8) : Prop
  | tru : k = 1 → n = 1 → t = eB → y = eB → l = [116, 114, 117, 101] → Shape k n t y l
  | fal : k = 1 → n = 0 → t = eB → y = eB → l = [102, 97, 108, 115, 101] → Shape k n t y l
  | num : k = 2 → t = eB → y = eB → l = Lib.itoa n → Shape k n t y l
  | txt : k = 3 → n = 0 → y = eB → l = quo t.data.toList → Shape k n t y l
  | ref : k = 4 → n = 0 → goodName y = true → l = y.data.toList ++ 58 :: 58 :: quo t.data.toList → Shape k n t y l
  | dec : k = 5 → t = eB → y = eB → l = decL n → Shape k n t y l
  | adr : k = 6 → t = eB → y = eB → 0 ≤ n / 64 → n / 64 < 4294967296 → 0 ≤ n % 64 → n % 64 ≤ 32 → l = blkL (n / 64) (n % 64) → Shape k n t y l
  | tim : k = 7 → t = eB → y = eB → l = 64 :: Lib.itoa n → Shape k n t y l

theorem shape {k n : Int} {t y : ByteArray} (h : goodAtom k n t y = true) : Shape k n t y (atomL k n t y) := by
  have hk := good_kind h
  unfold goodAtom at h
  split at h
  · rename_i hk3
    simp only [Bool.and_eq_true, beq_iff_eq] at h
    obtain ⟨⟨h1, h2⟩, _⟩ := h
    exact .txt hk3 h2 (emp_of h1) (by unfold atomL; rw [if_neg (by omega), if_pos hk3])
  · split at h
    · rename_i hk3 hk4
      simp only [Bool.and_eq_true, beq_iff_eq] at h
      obtain ⟨⟨⟨h1, h2⟩, _⟩, _⟩ := h
      refine .ref hk4 h1 h2 ?_
      unfold atomL
      rw [if_neg (by omega), if_neg hk3, if_pos hk4]; simp
    · split at h
      · rename_i hk3 hk4 hkk
        simp only [Bool.and_eq_true] at h
        obtain ⟨⟨h1, h2⟩, h3⟩ := h
        have e1 := emp_of h1
        have e2 := emp_of h2
        unfold numB at h3
        by_cases k1 : k = 1
        · rw [if_pos k1] at h3
          simp only [Bool.or_eq_true, beq_iff_eq] at h3
          by_cases n1 : n = 1
          · exact .tru k1 n1 e1 e2 (by unfold atomL; rw [if_pos k1, if_pos n1])
          · exact .fal k1 (h3.resolve_right n1) e1 e2 (by unfold atomL; rw [if_pos k1, if_neg n1])
        by_cases k5 : k = 5
        · exact .dec k5 e1 e2 (by unfold atomL; rw [if_neg k1, if_neg hk3, if_neg hk4, if_pos k5])
        by_cases k6 : k = 6
        · rw [if_neg k1, if_pos k6] at h3
          unfold blockB at h3
          simp only [Bool.and_eq_true, decide_eq_true_eq] at h3
          exact .adr k6 e1 e2 (by omega) (by omega) (by omega) (by omega) (by unfold atomL; rw [if_neg k1, if_neg hk3, if_neg hk4, if_neg k5, if_pos k6])
        by_cases k7 : k = 7
        · exact .tim k7 e1 e2 (by unfold atomL; rw [if_neg k1, if_neg hk3, if_neg hk4, if_neg k5, if_neg k6, if_pos k7])
        · exact .num (by omega) e1 e2 (by unfold atomL; rw [if_neg k1, if_neg hk3, if_neg hk4, if_neg k5, if_neg k6, if_neg k7])
      · cases h

/-- Digits and the signs of numbers. -/
def NC (c : UInt8) : Prop := c = 45 ∨ Dig c
theorem itoa_cons (n : Int) : ∃ c r, Lib.itoa n = c :: r ∧ NC c := by
  cases h : Lib.itoa n with
  | nil =>
    exfalso
    rcases itoa_head n with ⟨_, e⟩ | ⟨_, e⟩
    · rw [e] at h; cases h
    · have := dec_pos n.toNat; rw [← e, h] at this; simp at this
  | cons c r => exact ⟨c, r, rfl, itoa_chars n c (by rw [h]; simp)⟩
theorem itoa_nc (n : Int) : ∀ c ∈ Lib.itoa n, NC c := itoa_chars n

/-- A decimal's text: what stands ahead of the point and behind it. -/
theorem dec_parts (n : Int) (h0 : -9223372036854775808 ≤ n) (h1 : n ≤ 9223372036854775807) : ∃ A B, decL n = A ++ 46 :: B ∧ (∀ c ∈ A, NC c) ∧ (∀ c ∈ B, Dig c) ∧ Lib.atoiAll (A ++ B) = .ok n ∧ ∃ c r, A = c :: r := by
  obtain ⟨P, hP⟩ : ∃ P, padL (Lib.decDigits n.natAbs) = P := ⟨_, rfl⟩
  have pd : ∀ c ∈ P, Dig c := by
    rw [← hP]
    intro c hc
    unfold padL at hc
    rw [List.mem_append] at hc
    rcases hc with hc | hc
    · rw [List.eq_of_mem_replicate hc]; unfold Dig; decide
    · exact dec_dig _ c hc
  have pl : 5 ≤ P.length := by rw [← hP, padL_len]; omega
  have pv : dval 0 P = n.natAbs := by
    rw [← hP]
    unfold padL
    have z : ∀ k (D : List UInt8), dval 0 (List.replicate k 48 ++ D) = dval 0 D := by
      intro k D
      induction k with
      | zero => rfl
      | succ k ih =>
        rw [List.replicate_succ, List.cons_append, dval_cons]
        have : 0 * 10 + ((48 : UInt8).toNat - 48) = 0 := by decide
        rw [this, ih]
    rw [z, dec_val]
  have hpm : Lib.parseMag P = .ok n.natAbs := by
    unfold Lib.parseMag
    rw [if_neg (fun e => by rw [e] at pl; simp at pl), parse_ok P 0 pd (by rw [pv]; omega), pv]
  have ht : P.take (P.length - 4) ++ P.drop (P.length - 4) = P := List.take_append_drop _ _
  obtain ⟨c, r, hcr⟩ : ∃ c r, P.take (P.length - 4) = c :: r := by
    cases h : P.take (P.length - 4) with
    | nil => have := congrArg List.length h; rw [List.length_take] at this; simp at this; omega
    | cons c r => exact ⟨c, r, rfl⟩
  by_cases hn : n < 0
  · refine ⟨45 :: P.take (P.length - 4), P.drop (P.length - 4), ?_, ?_, fun c hc => pd c (List.mem_of_mem_drop hc), ?_, _, _, rfl⟩
    · unfold decL dotL; rw [if_pos hn, hP]; rfl
    · intro x hx
      rw [List.mem_cons] at hx
      rcases hx with h | h
      · exact .inl h
      · exact .inr (pd x (List.mem_of_mem_take h))
    · rw [List.cons_append, ht, Lib.atoiAll_minus, hpm]
      unfold Lib.signed
      simp only
      rw [if_neg (by omega)]
      congr 1
      omega
  · refine ⟨P.take (P.length - 4), P.drop (P.length - 4), ?_, fun x hx => .inr (pd x (List.mem_of_mem_take hx)), fun c hc => pd c (List.mem_of_mem_drop hc), ?_, c, r, hcr⟩
    · unfold decL dotL; rw [if_neg hn, hP]; rfl
    · rw [ht]
      cases hPc : P with
      | nil => rw [hPc] at pl; simp at pl
      | cons d q =>
        have hd := pd d (by rw [hPc]; simp)
        unfold Dig at hd
        rw [hPc] at hpm
        rw [Lib.atoiAll_plain d q (by omega) (by omega), hpm]
        unfold Lib.signless
        simp only
        rw [if_neg (by omega)]
        congr 1
        omega
/-- A block's text: what stands ahead of the slash. -/
theorem blk_parts (f b : Int) : ∃ A, blkL f b = A ++ 47 :: Lib.itoa b ∧ (∀ c ∈ A, NC c ∨ c = 46) ∧ ∃ c r, A = c :: r ∧ NC c := by
  refine ⟨_, rfl, ?_, ?_⟩
  · intro c hm
    unfold four at hm
    simp only [List.map_cons, List.map_nil, Lib.join, List.intercalate, List.intersperse, List.flatten_cons, List.flatten_nil, List.mem_append, List.append_nil, List.mem_singleton] at hm
    rcases hm with h | h | h | h | h | h | h
    · exact .inl (itoa_nc _ c h)
    · exact .inr h
    · exact .inl (itoa_nc _ c h)
    · exact .inr h
    · exact .inl (itoa_nc _ c h)
    · exact .inr h
    · exact .inl (itoa_nc _ c h)
  · obtain ⟨c, r, e, h⟩ := itoa_cons (f / 16777216)
    unfold four
    simp only [List.map_cons, List.map_nil, Lib.join, List.intercalate, List.intersperse, List.flatten_cons, List.flatten_nil, List.append_nil]
    rw [e]
    exact ⟨c, _, rfl, h⟩
/-- A name: its first byte, and none of it a colon. -/
theorem name_parts {y : ByteArray} (h : goodName y = true) : (∃ c r, y.data.toList = c :: r ∧ namB (c.toNat : Int) = true) ∧ (∀ c ∈ y.data.toList, okcB c = true) := by
  have hn : nameL y.data.toList = true := h
  unfold nameL at hn
  simp only [Bool.and_eq_true, decide_eq_true_eq, List.all_eq_true, Bool.not_eq_true'] at hn
  obtain ⟨⟨⟨h1, _⟩, h3⟩, h4⟩ := hn
  refine ⟨?_, h4⟩
  cases hl : y.data.toList with
  | nil => rw [hl] at h1; simp at h1
  | cons c r =>
    refine ⟨c, r, rfl, ?_⟩
    have hc := h4 c (by rw [hl]; simp)
    rw [hl] at h3
    simp at h3
    unfold okcB at hc
    rw [h3, Bool.or_false] at hc
    exact hc
theorem okc_58 : okcB 58 = false := by decide
theorem nam_34 : namB (34 : Int) = false := by decide
end Go.Proofs.YticidjceljjfnaaGreatDoor
/- Which atom a text may be, by its first byte: pure. -/
namespace Go.Proofs.YticidjceljjfnaaGreatDoor

structure GA (l : List UInt8) (k n : Int) (t y : ByteArray) : Prop where
  n0 : -9223372036854775808 ≤ n
  n1 : n ≤ 9223372036854775807
  tz : t.size ≤ 1100000
  yz : y.size ≤ 1100000
  fit : ∀ (k' n' : Int) (t' y' : ByteArray), goodAtom k' n' t' y' = true → -9223372036854775808 ≤ n' → n' ≤ 9223372036854775807 → atomL k' n' t' y' = l → k = k' ∧ n = n' ∧ t = t' ∧ y = y'
def GARet (l : List UInt8) (e : Ending) : Prop := ∃ (k n : Int) (t y : ByteArray), e = .returned (.agg #[.int .i64 k, .int .i64 n, .string t, .string y]) ∧ GA l k n t y

/-- All that the first byte and the rest tell. -/
inductive Hed (k n : Int) (t y : ByteArray) (c : UInt8) (r : List UInt8) : Prop
  | tru : k = 1 → n = 1 → t = eB → y = eB → c :: r = [116, 114, 117, 101] → Hed k n t y c r
  | fal : k = 1 → n = 0 → t = eB → y = eB → c :: r = [102, 97, 108, 115, 101] → Hed k n t y c r
  | txt : k = 3 → n = 0 → y = eB → c = 34 → c :: r = quo t.data.toList → Hed k n t y c r
  | tim : k = 7 → t = eB → y = eB → c = 64 → r = Lib.itoa n → Hed k n t y c r
  | ref : k = 4 → n = 0 → namB (c.toNat : Int) = true → (58 : UInt8) ∉ y.data.toList → c :: r = y.data.toList ++ 58 :: 58 :: quo t.data.toList → Hed k n t y c r
  | adr : k = 6 → t = eB → y = eB → NC c → 0 ≤ n / 64 → n / 64 < 4294967296 → 0 ≤ n % 64 → n % 64 ≤ 32 → c :: r = blkL (n / 64) (n % 64) → (47 : UInt8) ∈ c :: r → (58 : UInt8) ∉ c :: r → Hed k n t y c r
  | dec (A B : List UInt8) : k = 5 → t = eB → y = eB → NC c → c :: r = decL n → c :: r = A ++ 46 :: B → (∀ x ∈ A, NC x) → (∀ x ∈ B, Dig x) → Lib.atoiAll (A ++ B) = .ok n → (47 : UInt8) ∉ c :: r → (58 : UInt8) ∉ c :: r → Hed k n t y c r
  | num : k = 2 → t = eB → y = eB → NC c → c :: r = Lib.itoa n → (47 : UInt8) ∉ c :: r → (46 : UInt8) ∉ c :: r → Hed k n t y c r
theorem nc_not {x : UInt8} (h : NC x) : ¬ x = 46 ∧ ¬ x = 47 ∧ ¬ x = 58 ∧ ¬ x = 34 ∧ ¬ x = 64 ∧ ¬ x = 116 ∧ ¬ x = 102 ∧ namB (x.toNat : Int) = false := by
  rcases h with rfl | h
  · exact ⟨by decide, by decide, by decide, by decide, by decide, by decide, by decide, by decide⟩
  · unfold Dig at h
    refine ⟨?_, ?_, ?_, ?_, ?_, ?_, ?_, ?_⟩
    all_goals first
      | (intro e; rw [e] at h; exact absurd h (by decide))
      | (unfold namB; exact decide_eq_false (by omega))
theorem dig_nc {x : UInt8} (h : Dig x) : NC x := .inr h
theorem hed {k n : Int} {t y : ByteArray} {c : UInt8} {r : List UInt8} (hg : goodAtom k n t y = true) (h0 : -9223372036854775808 ≤ n) (h1 : n ≤ 9223372036854775807) (e : atomL k n t y = c :: r) : Hed k n t y c r := by
  have hs := shape hg
  rw [e] at hs
  cases hs with
  | tru a b p q l => exact .tru a b p q l
  | fal a b p q l => exact .fal a b p q l
  | num a p q l =>
    have hnc := itoa_nc n
    rw [← l] at hnc
    refine .num a p q (hnc c (by simp)) l ?_ ?_
    · exact fun h => (nc_not (hnc _ h)).2.1 rfl
    · exact fun h => (nc_not (hnc _ h)).1 rfl
  | txt a b q l =>
    refine .txt a b q ?_ l
    unfold quo at l
    injection l
  | ref a b p l =>
    obtain ⟨⟨c', r', e1, e2⟩, e3⟩ := name_parts p
    have hc : c = c' := by
      rw [e1] at l
      injection l
    refine .ref a b (by rw [hc]; exact e2) (fun h => by have := e3 _ h; rw [okc_58] at this; cases this) l
  | dec a p q l =>
    obtain ⟨A, B, e1, e2, e3, e4, c', r', e5⟩ := dec_parts n h0 h1
    have hl : c :: r = A ++ 46 :: B := by rw [l, e1]
    have hc : NC c := by
      rw [e5] at hl
      injection hl with hc
      exact e2 c (by rw [e5, hc]; simp)
    refine .dec A B a p q hc l hl e2 e3 e4 ?_ ?_
    · intro h
      rw [hl, List.mem_append, List.mem_cons] at h
      rcases h with h | h | h
      · exact (nc_not (e2 _ h)).2.1 rfl
      · exact absurd h (by decide)
      · exact (nc_not (dig_nc (e3 _ h))).2.1 rfl
    · intro h
      rw [hl, List.mem_append, List.mem_cons] at h
      rcases h with h | h | h
      · exact (nc_not (e2 _ h)).2.2.1 rfl
      · exact absurd h (by decide)
      · exact (nc_not (dig_nc (e3 _ h))).2.2.1 rfl
  | adr a p q b1 b2 b3 b4 l =>
    obtain ⟨A, e1, e2, c', r', e3, e4⟩ := blk_parts (n / 64) (n % 64)
    have hl : c :: r = A ++ 47 :: Lib.itoa (n % 64) := by rw [l, e1]
    have hc : c = c' := by
      rw [e3] at hl
      injection hl
    refine .adr a p q (by rw [hc]; exact e4) b1 b2 b3 b4 l (by rw [hl]; simp) ?_
    intro h
    rw [hl, List.mem_append, List.mem_cons] at h
    rcases h with h | h | h
    · rcases e2 _ h with h2 | h2
      · exact (nc_not h2).2.2.1 rfl
      · exact absurd h2 (by decide)
    · exact absurd h (by decide)
    · exact (nc_not (itoa_nc _ _ h)).2.2.1 rfl
  | tim a p q l =>
    injection l with l1 l2
    exact .tim a p q l1 l2
theorem atomL_cons {k n : Int} {t y : ByteArray} (hg : goodAtom k n t y = true) (h0 : -9223372036854775808 ≤ n) (h1 : n ≤ 9223372036854775807) : ∃ c r, atomL k n t y = c :: r := by
  cases h : atomL k n t y with
  | cons c r => exact ⟨c, r, rfl⟩
  | nil =>
    exfalso
    have hs := shape hg
    rw [h] at hs
    cases hs with
    | tru _ _ _ _ l => cases l
    | fal _ _ _ _ l => cases l
    | num _ _ _ l => obtain ⟨c, r, e, _⟩ := itoa_cons n; rw [e] at l; cases l
    | txt _ _ _ l => cases l
    | ref _ _ _ l => have := congrArg List.length l; simp at this
    | dec _ _ _ l => obtain ⟨A, B, e, _⟩ := dec_parts n h0 h1; rw [e] at l; have := congrArg List.length l; simp at this
    | adr _ _ _ _ _ _ _ l => obtain ⟨A, e, _⟩ := blk_parts (n / 64) (n % 64); rw [e] at l; have := congrArg List.length l; simp at this
    | tim _ _ _ l => cases l
/-- The way to show that a guess fits. -/
theorem ga_of {l : List UInt8} {k n : Int} {t y : ByteArray} (n0 : -9223372036854775808 ≤ n) (n1 : n ≤ 9223372036854775807) (tz : t.size ≤ 1100000) (yz : y.size ≤ 1100000)
    (h : ∀ (c : UInt8) (r : List UInt8), l = c :: r → ∀ (k' n' : Int) (t' y' : ByteArray), -9223372036854775808 ≤ n' → n' ≤ 9223372036854775807 → Hed k' n' t' y' c r → k = k' ∧ n = n' ∧ t = t' ∧ y = y') : GA l k n t y := by
  refine ⟨n0, n1, tz, yz, fun k' n' t' y' hg h0 h1 e => ?_⟩
  obtain ⟨c, r, e2⟩ := atomL_cons hg h0 h1
  exact h c r (by rw [← e, e2]) k' n' t' y' h0 h1 (hed hg h0 h1 e2)
theorem first_of (c : UInt8) : ∀ l : List UInt8, c ∈ l → ∃ a b, l = a ++ c :: b ∧ c ∉ a
  | [], h => by cases h
  | x :: l, h => by
    by_cases e : x = c
    · exact ⟨[], l, by rw [e]; rfl, by simp⟩
    · have hm : c ∈ l := by
        rw [List.mem_cons] at h
        exact h.resolve_left (fun h => e h.symm)
      obtain ⟨a, b, e1, e2⟩ := first_of c l hm
      exact ⟨x :: a, b, by rw [e1]; rfl, by
        intro h
        rw [List.mem_cons] at h
        rcases h with h | h
        · exact e h.symm
        · exact e2 h⟩
theorem ix_mem (l : List UInt8) (c : UInt8) : 0 ≤ Lib.indexByte l c ↔ c ∈ l := by
  constructor
  · intro h
    apply Classical.byContradiction
    intro hn
    rw [ix_none c l hn] at h
    omega
  · intro h
    obtain ⟨a, b, e, ha⟩ := first_of c l h
    rw [e, ix_app c a b ha]
    omega
end Go.Proofs.YticidjceljjfnaaGreatDoor
