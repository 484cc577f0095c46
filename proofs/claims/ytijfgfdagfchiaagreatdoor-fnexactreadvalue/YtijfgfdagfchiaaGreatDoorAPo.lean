/- What spec.l1Guess does to two parts and to five: pure. -/
import Derived.Test.YtijfgfdagfchiaaGreatDoorAPrt
namespace Go.Proofs.YtijfgfdagfchiaaGreatDoor
open Go.RowKit
set_option maxRecDepth 20000

theorem ga_sp {c : UInt8} {r : List UInt8} {k N : Int} (h0 : -9223372036854775808 ≤ N) (h1 : N ≤ 9223372036854775807) (hn : NTF (c :: r)) (h34 : ¬ c = 34) (h64 : ¬ c = 64)
    (hr : namB (c.toNat : Int) = true → ∀ y t : List UInt8, ¬ c :: r = y ++ 58 :: 58 :: quo t) (hnum : ∀ n : Int, -9223372036854775808 ≤ n → n ≤ 9223372036854775807 → ¬ c :: r = Lib.itoa n)
    (hd : ∀ (A B : List UInt8) (n : Int), c :: r = A ++ 46 :: B → c :: r = decL n → (∀ x ∈ A, NC x) → (∀ x ∈ B, Dig x) → k = 5 ∧ N = n)
    (ha : ∀ f b : Int, 0 ≤ f → f < 4294967296 → 0 ≤ b → b ≤ 32 → c :: r = blkL f b → k = 6 ∧ N = f * 64 + b) : GA (c :: r) k N eB eB :=
  ga_of h0 h1 (Nat.zero_le _) (Nat.zero_le _) (fun c' r' e k' n t y g0 g1 h => by
    injection e with e1 e2
    subst e1 e2
    cases h with
    | tru _ _ _ _ l => exact absurd l hn.1
    | fal _ _ _ _ l => exact absurd l hn.2
    | txt _ _ _ l => exact absurd l h34
    | tim _ _ _ l => exact absurd l h64
    | ref _ _ a _ l => exact absurd l (hr a _ _)
    | adr a p q _ b1 b2 b3 b4 l => obtain ⟨x, y⟩ := ha _ _ b1 b2 b3 b4 l; exact ⟨by omega, by omega, p.symm, q.symm⟩
    | dec A B a p q _ l0 l l1 l2 l3 => obtain ⟨x, y⟩ := hd A B n l l0 l1 l2; exact ⟨by omega, by omega, p.symm, q.symm⟩
    | num a p q _ l => exact absurd l (hnum n g0 g1))
/-- No good atom has a text that is none of three. -/
theorem ga_none {c : UInt8} {r : List UInt8} (hn : NTF (c :: r)) (h34 : ¬ c = 34) (h64 : ¬ c = 64)
    (hr : namB (c.toNat : Int) = true → ∀ y t : List UInt8, ¬ c :: r = y ++ 58 :: 58 :: quo t) (hnum : ∀ n : Int, -9223372036854775808 ≤ n → n ≤ 9223372036854775807 → ¬ c :: r = Lib.itoa n)
    (h2 : ¬ (sp (c :: r)).length = 2) (ha : ∀ f b : Int, 0 ≤ f → f < 4294967296 → 0 ≤ b → b ≤ 32 → ¬ c :: r = blkL f b) : GA (c :: r) 0 0 eB eB :=
  ga_sp (by omega) (by omega) hn h34 h64 hr hnum (fun A B n l _ hA hB => absurd (by rw [l, sp_dec hA hB]; rfl) h2) (fun f b b1 b2 b3 b4 l => absurd l (ha f b b1 b2 b3 b4))

/-- The digits of two parts, zeros ahead struck out. -/
def negD : List UInt8 → Bool
  | c :: _ => c == 45
  | [] => false
def magD (D : List UInt8) : List UInt8 := if negD D then D.drop 1 else D
def outD (D : List UInt8) : List UInt8 := if negD D && !(strip (magD D) == [48]) then 45 :: strip (magD D) else strip (magD D)
theorem dec_join {A B : List UInt8} {n : Int} (h0 : -9223372036854775808 ≤ n) (h1 : n ≤ 9223372036854775807) (e : decL n = A ++ 46 :: B) (hA : ∀ x ∈ A, NC x) (hB : ∀ x ∈ B, Dig x) : outD (A ++ B) = Lib.itoa n := by
  obtain ⟨P, hP⟩ : ∃ P, padL (Lib.decDigits n.natAbs) = P := ⟨_, rfl⟩
  have pd : ∀ c ∈ P, Dig c := by
    rw [← hP]
    intro c hc
    unfold padL at hc
    rw [List.mem_append] at hc
    rcases hc with hc | hc
    · rw [List.eq_of_mem_replicate hc]; unfold Dig; decide
    · exact dec_dig _ c hc
  have pl : 5 ≤ P.length := by rw [← hP, padL_len]; omega
  have pv : dval 0 P = n.natAbs := by
    rw [← hP]
    unfold padL
    have z : ∀ k (D : List UInt8), dval 0 (List.replicate k 48 ++ D) = dval 0 D := by
      intro k D
      induction k with
      | zero => rfl
      | succ k ih =>
        rw [List.replicate_succ, List.cons_append, dval_cons]
        have : 0 * 10 + ((48 : UInt8).toNat - 48) = 0 := by decide
        rw [this, ih]
    rw [z, dec_val]
  have pn : P ≠ [] := fun h => by rw [h] at pl; simp at pl
  have hs : strip P = Lib.decDigits n.natAbs := by rw [strip_dec P pn pd, pv]
  have ht : P.take (P.length - 4) ++ P.drop (P.length - 4) = P := List.take_append_drop _ _
  have e2 := sp_dec hA hB
  rw [← e] at e2
  by_cases hn : n < 0
  · have e3 : decL n = (45 :: P.take (P.length - 4)) ++ 46 :: P.drop (P.length - 4) := by unfold decL dotL; rw [if_pos hn, hP]; rfl
    rw [e3, sp_dec (fun x hx => by
      rw [List.mem_cons] at hx
      rcases hx with h | h
      · exact .inl h
      · exact .inr (pd x (List.mem_of_mem_take h))) (fun c hc => pd c (List.mem_of_mem_drop hc))] at e2
    injection e2 with e4 e5
    injection e5 with e5
    have eD : A ++ B = 45 :: P := by rw [← e4, ← e5, List.cons_append, ht]
    have hz : ¬ Lib.decDigits n.natAbs = [48] := fun h => by
      have := dec_val n.natAbs
      rw [h] at this
      have e : dval 0 [48] = 0 := by decide
      omega
    rw [eD]
    unfold outD magD negD
    simp only [List.drop_succ_cons, List.drop_zero, beq_self_eq_true, if_true, Bool.true_and]
    rw [hs, if_pos (by simpa using hz)]
    rcases itoa_head n with ⟨_, h⟩ | ⟨h, _⟩
    · exact h.symm
    · omega
  · have e3 : decL n = P.take (P.length - 4) ++ 46 :: P.drop (P.length - 4) := by unfold decL dotL; rw [if_neg hn, hP]; rfl
    rw [e3, sp_dec (fun x hx => .inr (pd x (List.mem_of_mem_take hx))) (fun c hc => pd c (List.mem_of_mem_drop hc))] at e2
    injection e2 with e4 e5
    injection e5 with e5
    have eD : A ++ B = P := by rw [← e4, ← e5, ht]
    have hng : negD P = false := by
      cases hPc : P with
      | nil => rfl
      | cons d q =>
        have hd := pd d (by rw [hPc]; simp)
        show (d == 45) = false
        rw [beq_eq_false_iff_ne]
        intro h
        rw [h] at hd
        exact absurd hd (by unfold Dig; decide)
    rw [eD]
    unfold outD magD
    rw [hng]
    simp only [Bool.false_and, Bool.false_eq_true, if_false]
    rw [hs]
    rcases itoa_head n with ⟨h, _⟩ | ⟨_, h⟩
    · omega
    · rw [h]; congr 1; omega
theorem ga_two {c : UInt8} {r A0 B0 : List UInt8} {N : Int} {b : Bool} (hn : NTF (c :: r)) (h34 : ¬ c = 34) (h64 : ¬ c = 64)
    (hr : namB (c.toNat : Int) = true → ∀ y t : List UInt8, ¬ c :: r = y ++ 58 :: 58 :: quo t) (hnum : ∀ n : Int, -9223372036854775808 ≤ n → n ≤ 9223372036854775807 → ¬ c :: r = Lib.itoa n)
    (hsp : sp (c :: r) = [A0, B0]) (hw : WholeIs (outD (A0 ++ B0)) N b) : GA (c :: r) 5 N eB eB :=
  ga_of hw.h0 hw.h1 (Nat.zero_le _) (Nat.zero_le _) (fun c' r' e k' n t y g0 g1 h => by
    injection e with e1 e2
    subst e1 e2
    cases h with
    | tru _ _ _ _ l => exact absurd l hn.1
    | fal _ _ _ _ l => exact absurd l hn.2
    | txt _ _ _ l => exact absurd l h34
    | tim _ _ _ l => exact absurd l h64
    | ref _ _ a _ l => exact absurd l (hr a _ _)
    | adr a p q _ b1 b2 b3 b4 l => rw [l, sp_blk] at hsp; have := congrArg List.length hsp; unfold four at this; simp at this
    | dec A B a p q _ l0 l l1 l2 l3 =>
      have e := sp_dec l1 l2
      rw [← l, hsp] at e
      injection e with e4 e5
      injection e5 with e5
      have := dec_join g0 g1 (by rw [← l0, l]) l1 l2
      rw [← e4, ← e5] at this
      exact ⟨a.symm, (hw.all n g0 g1 this).1, p.symm, q.symm⟩
    | num a p q _ l => exact absurd l (hnum n g0 g1))

/-- The numbers of an address, so far. -/
structure AI (P : List (List UInt8)) (k : Nat) (f : Int) : Prop where
  ex : ∃ ns : List Int, ns.length = k ∧ (∀ n ∈ ns, 0 ≤ n ∧ n ≤ 255) ∧ P.take k = ns.map Lib.itoa ∧ f = ns.foldl (fun f n => f * 256 + n) 0
theorem AI.zero (P : List (List UInt8)) : AI P 0 0 := ⟨[], rfl, by simp, rfl, rfl⟩
theorem AI.lt {P : List (List UInt8)} {k : Nat} {f : Int} (h : AI P k f) (hk : k ≤ 4) : 0 ≤ f ∧ f < 4294967296 := by
  obtain ⟨ns, hl, hr, _, rfl⟩ := h
  match ns, hl, hr with
  | [], _, _ => simp only [List.foldl_nil]; omega
  | [a], _, hr => have ha := hr a (by simp); simp only [List.foldl_cons, List.foldl_nil]; omega
  | [a, b], _, hr => have ha := hr a (by simp); have hb := hr b (by simp); simp only [List.foldl_cons, List.foldl_nil]; omega
  | [a, b, c], _, hr => have ha := hr a (by simp); have hb := hr b (by simp); have hc := hr c (by simp); simp only [List.foldl_cons, List.foldl_nil]; omega
  | [a, b, c, d], _, hr => have ha := hr a (by simp); have hb := hr b (by simp); have hc := hr c (by simp); have hd := hr d (by simp); simp only [List.foldl_cons, List.foldl_nil]; omega
  | _ :: _ :: _ :: _ :: _ :: _, hl, _ => simp at hl; omega
theorem AI.step {P : List (List UInt8)} {k : Nat} {f n : Int} (h : AI P k f) (hk : k < P.length) (h0 : 0 ≤ n) (h1 : n ≤ 255) (e : P[k] = Lib.itoa n) : AI P (k + 1) (f * 256 + n) := by
  obtain ⟨ns, hl, hr, ht, rfl⟩ := h
  refine ⟨ns ++ [n], by simp [hl], ?_, ?_, by simp⟩
  · intro x hx
    rw [List.mem_append] at hx
    rcases hx with h | h
    · exact hr x h
    · rw [List.mem_singleton] at h; subst h; exact ⟨h0, h1⟩
  · rw [List.take_succ_eq_append_getElem hk, ht, e]; simp
theorem four_le (f : Int) (h0 : 0 ≤ f) (h1 : f < 4294967296) : ∀ n ∈ four f, 0 ≤ n ∧ n ≤ 255 := by
  intro n hn
  unfold four at hn
  simp only [List.mem_cons, List.not_mem_nil, or_false] at hn
  omega
theorem four_fold (f : Int) : (four f).foldl (fun f n => f * 256 + n) 0 = f := by
  unfold four
  simp only [List.foldl_cons, List.foldl_nil]
  omega
theorem map_itoa_inj : ∀ (a b : List Int), (∀ n ∈ a, 0 ≤ n ∧ n ≤ 255) → (∀ n ∈ b, 0 ≤ n ∧ n ≤ 255) → a.map Lib.itoa = b.map Lib.itoa → a = b
  | [], [], _, _, _ => rfl
  | [], _ :: _, _, _, h => by cases h
  | _ :: _, [], _, _, h => by cases h
  | x :: a, y :: b, ha, hb, h => by
    rw [List.map_cons, List.map_cons] at h
    injection h with h1 h2
    have hx := ha x (by simp)
    have hy := hb y (by simp)
    rw [itoa_inj (by omega) (by omega) (by omega) (by omega) h1, map_itoa_inj a b (fun n hn => ha n (List.mem_cons_of_mem _ hn)) (fun n hn => hb n (List.mem_cons_of_mem _ hn)) h2]
theorem AI.whole {P : List (List UInt8)} {f f' b : Int} (h : AI P 4 f) (h0 : 0 ≤ f') (h1 : f' < 4294967296) (e : P = (four f').map Lib.itoa ++ [Lib.itoa b]) : f = f' := by
  obtain ⟨ns, hl, hr, ht, rfl⟩ := h
  have e4 : ((four f').map Lib.itoa).length = 4 := by unfold four; rfl
  rw [e, List.take_append_of_le_length (by omega), List.take_of_length_le (by omega)] at ht
  rw [← map_itoa_inj _ _ (four_le f' h0 h1) hr ht, four_fold]
/-- The k-th part of a block's text. -/
theorem blk_at {f b : Int} (h0 : 0 ≤ f) (h1 : f < 4294967296) {P : List (List UInt8)} (e : P = (four f).map Lib.itoa ++ [Lib.itoa b]) (k : Nat) (hk : k < 4) (hk2 : k < P.length) : ∃ n : Int, 0 ≤ n ∧ n ≤ 255 ∧ P[k] = Lib.itoa n := by
  subst e
  have e4 : (four f).length = 4 := by unfold four; rfl
  refine ⟨(four f)[k]'(by omega), (four_le f h0 h1 _ (List.getElem_mem _)).1, (four_le f h0 h1 _ (List.getElem_mem _)).2, ?_⟩
  rw [List.getElem_append_left (by simpa [e4] using hk), List.getElem_map]
theorem blk_last {f b : Int} {P : List (List UInt8)} (e : P = (four f).map Lib.itoa ++ [Lib.itoa b]) (hk2 : 4 < P.length) : P[4] = Lib.itoa b := by
  subst e
  unfold four
  rfl
theorem sp_len : ∀ l : List UInt8, ∀ p ∈ sp l, p.length ≤ l.length
  | [], p, h => by simp [sp] at h; subst h; simp
  | c :: t, p, h => by
    have ih := sp_len t
    unfold sp at h
    split at h
    · rw [List.mem_cons] at h
      rcases h with rfl | h
      · simp
      · have := ih p h; simp; omega
    · obtain ⟨q, r, e⟩ := sp_ne t
      rw [e] at h ih
      simp only [List.mem_cons] at h
      rcases h with rfl | h
      · have := ih q (by simp); simp; omega
      · have := ih p (List.mem_cons_of_mem _ h); simp; omega
theorem own_cell {w : World} {g e : Nat} {cur : Array Value} {P : List (List UInt8)} (hg : w.heap[g]? = some (.cells cur e (0, 0))) (ht : cur.toList.take (P.length * 1) = strsV P) (j : Nat) (h : j < P.length) : w.cell? ⟨g, j, none⟩ = some (.string ⟨P[j].toArray⟩) := by
  have h2 := congrArg (fun l => l[j]?) ht
  simp only [strsV, Nat.mul_one, List.getElem?_take, if_pos h, Array.getElem?_toList, List.getElem?_map, List.getElem?_eq_getElem h, Option.map_some] at h2
  simp [World.cell?, hg, h2]
theorem strip_step {Z : List UInt8} {d : UInt8} {t : List UInt8} (h : Z = 48 :: d :: t) : strip (d :: t) = strip Z := by rw [h]; simp [strip]
theorem strip_done {Z : List UInt8} (h : Z.length ≤ 1 ∨ ∃ c t, Z = c :: t ∧ ¬ c = 48) : strip Z = Z := by
  match Z, h with
  | [], _ => rfl
  | [_], _ => rfl
  | c :: d :: t, h =>
    rcases h with h | ⟨c', t', e, hc⟩
    · simp at h
    · injection e with e1 e2
      subst e1
      simp [strip, hc]
end Go.Proofs.YtijfgfdagfchiaaGreatDoor
