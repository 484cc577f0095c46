/- APo, AGs, one behind the other. -/
import Derived.Test.YticidjceljjfnaaGreatDoorJ29
/- What spec.l1Guess does to two parts and to five: pure. -/
namespace Go.Proofs.YticidjceljjfnaaGreatDoor
open Go.RowKit
set_option maxRecDepth 20000

theorem ga_sp {c : UInt8} {r : List UInt8} {k N : Int} (h0 : -9223372036854775808 ≤ N) (h1 : N ≤ 9223372036854775807) (hn : NTF (c :: r)) (h34 : ¬ c = 34) (h64 : ¬ c = 64)
    (hr : namB (c.toNat : Int) = true → ∀ y t : List UInt8, ¬ c :: r = y ++ 58 :: 58 :: quo t) (hnum : ∀ n : Int, -9223372036854775808 ≤ n → n ≤ 9223372036854775807 → ¬ c :: r = Lib.itoa n)
    (hd : ∀ (A B : List UInt8) (n : Int), c :: r = A ++ 46 :: B → c :: r = decL n → (∀ x ∈ A, NC x) → (∀ x ∈ B, Dig x) → k = 5 ∧ N = n)
    (ha : ∀ f b : Int, 0 ≤ f → f < 4294967296 → 0 ≤ b → b ≤ 32 → c :: r = blkL f b → k = 6 ∧ N = f * 64 + b) : GA (c :: r) k N eB eB :=
  ga_of h0 h1 (Nat.zero_le _) (Nat.zero_le _) (fun c' r' e k' n t y g0 g1 h => by
    injection e with e1 e2
    subst e1 e2
    cases h with
    | tru _ _ _ _ l => exact absurd l hn.1
    | fal _ _ _ _ l => exact absurd l hn.2
    | txt _ _ _ l => exact absurd l h34
    | tim _ _ _ l => exact absurd l h64
    | ref _ _ a _ l => exact absurd l (hr a _ _)
    | adr a p q _ b1 b2 b3 b4 l => obtain ⟨x, y⟩ := ha _ _ b1 b2 b3 b4 l; exact ⟨by omega, by omega, p.symm, q.symm⟩
    | dec A B a p q _ l0 l l1 l2 l3 => obtain ⟨x, y⟩ := hd A B n l l0 l1 l2; exact ⟨by omega, by omega, p.symm, q.symm⟩
    | num a p q _ l => exact absurd l (hnum n g0 g1))
/-- No good atom has a text that is none of three. -/
theorem ga_none {c : UInt8} {r : List UInt8} (hn : NTF (c :: r)) (h34 : ¬ c = 34) (h64 : ¬ c = 64)
    (hr : namB (c.toNat : Int) = true → ∀ y t : List UInt8, ¬ c :: r = y ++ 58 :: 58 :: quo t) (hnum : ∀ n : Int, -9223372036854775808 ≤ n → n ≤ 9223372036854775807 → ¬ c :: r = Lib.itoa n)
    (h2 : ¬ (sp (c :: r)).length = 2) (ha : ∀ f b : Int, 0 ≤ f → f < 4294967296 → 0 ≤ b → b ≤ 32 → ¬ c :: r = blkL f b) : GA (c :: r) 0 0 eB eB :=
  ga_sp (by omega) (by omega) hn h34 h64 hr hnum (fun A B n l _ hA hB => absurd (by rw [l, sp_dec hA hB]; rfl) h2) (fun f b b1 b2 b3 b4 l => absurd l (ha f b b1 b2 b3 b4))

/-- The digits of two parts, zeros ahead struck out. -/
def negD : List UInt8 → Bool
  | c :: _ => c == 45
  | [] => false
def magD (D : List UInt8) : List UInt8 := if negD D then D.drop 1 else D
def outD (D : List UInt8) : List UInt8 := if negD D && !(strip (magD D) == [48]) then 45 :: strip (magD D) else strip (magD D)
theorem dec_join {A B : List UInt8} {n : Int} (h0 : -9223372036854775808 ≤ n) (h1 : n ≤ 9223372036854775807) (e : decL n = A ++ 46 :: B) (hA : ∀ x ∈ A, NC x) (hB : ∀ x ∈ B, Dig x) : outD (A ++ B) = Lib.itoa n := by
  obtain ⟨P, hP⟩ : ∃ P, padL (Lib.decDigits n.natAbs) = P := ⟨_, rfl⟩
  have pd : ∀ c ∈ P, Dig c := by
    rw [← hP]
    intro c hc
    unfold padL at hc
    rw [List.mem_append] at hc
    rcases hc with hc | hc
    · rw [List.eq_of_mem_replicate hc]; unfold Dig; decide
    · exact dec_dig _ c hc
  have pl : 5 ≤ P.length := by rw [← hP, padL_len]; omega
  have pv : dval 0 P = n.natAbs := by
    rw [← hP]
    unfold padL
    have z : ∀ k (D : List UInt8), dval 0 (List.replicate k 48 ++ D) = dval 0 D := by
      intro k D
      induction k with
      | zero => rfl
      | succ k ih =>
        rw [List.replicate_succ, List.cons_append, dval_cons]
        have : 0 * 10 + ((48 : UInt8).toNat - 48) = 0 := by decide
        rw [this, ih]
    rw [z, dec_val]
  have pn : P ≠ [] := fun h => by rw [h] at pl; simp at pl
  have hs : strip P = Lib.decDigits n.natAbs := by rw [strip_dec P pn pd, pv]
  have ht : P.take (P.length - 4) ++ P.drop (P.length - 4) = P := List.take_append_drop _ _
  have e2 := sp_dec hA hB
  rw [← e] at e2
  by_cases hn : n < 0
  · have e3 : decL n = (45 :: P.take (P.length - 4)) ++ 46 :: P.drop (P.length - 4) := by unfold decL dotL; rw [if_pos hn, hP]; rfl
    rw [e3, sp_dec (fun x hx => by
      rw [List.mem_cons] at hx
      rcases hx with h | h
      · exact .inl h
      · exact .inr (pd x (List.mem_of_mem_take h))) (fun c hc => pd c (List.mem_of_mem_drop hc))] at e2
    injection e2 with e4 e5
    injection e5 with e5
    have eD : A ++ B = 45 :: P := by rw [← e4, ← e5, List.cons_append, ht]
    have hz : ¬ Lib.decDigits n.natAbs = [48] := fun h => by
      have := dec_val n.natAbs
      rw [h] at this
      have e : dval 0 [48] = 0 := by decide
      omega
    rw [eD]
    unfold outD magD negD
    simp only [List.drop_succ_cons, List.drop_zero, beq_self_eq_true, if_true, Bool.true_and]
    rw [hs, if_pos (by simpa using hz)]
    rcases itoa_head n with ⟨_, h⟩ | ⟨h, _⟩
    · exact h.symm
    · omega
  · have e3 : decL n = P.take (P.length - 4) ++ 46 :: P.drop (P.length - 4) := by unfold decL dotL; rw [if_neg hn, hP]; rfl
    rw [e3, sp_dec (fun x hx => .inr (pd x (List.mem_of_mem_take hx))) (fun c hc => pd c (List.mem_of_mem_drop hc))] at e2
    injection e2 with e4 e5
    injection e5 with e5
    have eD : A ++ B = P := by rw [← e4, ← e5, ht]
    have hng : negD P = false := by
      cases hPc : P with
      | nil => rfl
      | cons d q =>
        have hd := pd d (by rw [hPc]; simp)
        show (d == 45) = false
        rw [beq_eq_false_iff_ne]
        intro h
        rw [h] at hd
        exact absurd hd (by unfold Dig; decide)
    rw [eD]
    unfold outD magD
    rw [hng]
    simp only [Bool.false_and, Bool.false_eq_true, if_false]
    rw [hs]
    rcases itoa_head n with ⟨h, _⟩ | ⟨_, h⟩
    · omega
    · rw [h]; congr 1; omega
theorem ga_two {c : UInt8} {r A0 B0 : List UInt8} {N : Int} {b : Bool} (hn : NTF (c :: r)) (h34 : ¬ c = 34) (h64 : ¬ c = 64)
    (hr : namB (c.toNat : Int) = true → ∀ y t : List UInt8, ¬ c :: r = y ++ 58 :: 58 :: quo t) (hnum : ∀ n : Int, -9223372036854775808 ≤ n → n ≤ 9223372036854775807 → ¬ c :: r = Lib.itoa n)
    (hsp : sp (c :: r) = [A0, B0]) (hw : WholeIs (outD (A0 ++ B0)) N b) : GA (c :: r) 5 N eB eB :=
  ga_of hw.h0 hw.h1 (Nat.zero_le _) (Nat.zero_le _) (fun c' r' e k' n t y g0 g1 h => by
    injection e with e1 e2
    subst e1 e2
    cases h with
    | tru _ _ _ _ l => exact absurd l hn.1
    | fal _ _ _ _ l => exact absurd l hn.2
    | txt _ _ _ l => exact absurd l h34
    | tim _ _ _ l => exact absurd l h64
    | ref _ _ a _ l => exact absurd l (hr a _ _)
    | adr a p q _ b1 b2 b3 b4 l => rw [l, sp_blk] at hsp; have := congrArg List.length hsp; unfold four at this; simp at this
    | dec A B a p q _ l0 l l1 l2 l3 =>
      have e := sp_dec l1 l2
      rw [← l, hsp] at e
      injection e with e4 e5
      injection e5 with e5
      have := dec_join g0 g1 (by rw [← l0, l]) l1 l2
      rw [← e4, ← e5] at this
      exact ⟨a.symm, (hw.all n g0 g1 this).1, p.symm, q.symm⟩
    | num a p q _ l => exact absurd l (hnum n g0 g1))

/-- The numbers of an address, so far. -/
structure AI (P : List (List UInt8)) (k : Nat) (f : Int) : Prop where
  ex : ∃ ns : List Int, ns.length = k ∧ (∀ n ∈ ns, 0 ≤ n ∧ n ≤ 255) ∧ P.take k = ns.map Lib.itoa ∧ f = ns.foldl (fun f n => f * 256 + n) 0
theorem AI.zero (P : List (List UInt8)) : AI P 0 0 := ⟨[], rfl, by simp, rfl, rfl⟩
theorem AI.lt {P : List (List UInt8)} {k : Nat} {f : Int} (h : AI P k f) (hk : k ≤ 4) : 0 ≤ f ∧ f < 4294967296 := by
  obtain ⟨ns, hl, hr, _, rfl⟩ := h
  match ns, hl, hr with
  | [], _, _ => simp only [List.foldl_nil]; omega
  | [a], _, hr => have ha := hr a (by simp); simp only [List.foldl_cons, List.foldl_nil]; omega
  | [a, b], _, hr => have ha := hr a (by simp); have hb := hr b (by simp); simp only [List.foldl_cons, List.foldl_nil]; omega
  | [a, b, c], _, hr => have ha := hr a (by simp); have hb := hr b (by simp); have hc := hr c (by simp); simp only [List.foldl_cons, List.foldl_nil]; omega
  | [a, b, c, d], _, hr => have ha := hr a (by simp); have hb := hr b (by simp); have hc := hr c (by simp); have hd := hr d (by simp); simp only [List.foldl_cons, List.foldl_nil]; omega
  | _ :: _ :: _ :: _ :: _ :: _, hl, _ => simp at hl; omega
theorem AI.step {P : List (List UInt8)} {k : Nat} {f n : Int} (h : AI P k f) (hk : k < P.length) (h0 : 0 ≤ n) (h1 : n ≤ 255) (e : P[k] = Lib.itoa n) : AI P (k + 1) (f * 256 + n) := by
  obtain ⟨ns, hl, hr, ht, rfl⟩ := h
  refine ⟨ns ++ [n], by simp [hl], ?_, ?_, by simp⟩
  · intro x hx
    rw [List.mem_append] at hx
    rcases hx with h | h
    · exact hr x h
    · rw [List.mem_singleton] at h; subst h; exact ⟨h0, h1⟩
  · rw [List.take_succ_eq_append_getElem hk, ht, e]; simp
theorem four_le (f : Int) (h0 : 0 ≤ f) (h1 : f < 4294967296) : ∀ n ∈ four f, 0 ≤ n ∧ n ≤ 255 := by
  intro n hn
  unfold four at hn
  simp only [List.mem_cons, List.not_mem_nil, or_false] at hn
  omega
theorem four_fold (f : Int) : (four f).foldl (fun f n => f * 256 + n) 0 = f := by
  unfold four
  simp only [List.foldl_cons, List.foldl_nil]
  omega
theorem map_itoa_inj : ∀ (a b : List Int), (∀ n ∈ a, 0 ≤ n ∧ n ≤ 255) → (∀ n ∈ b, 0 ≤ n ∧ n ≤ 255) → a.map Lib.itoa = b.map Lib.itoa → a = b
  | [], [], _, _, _ => rfl
  | [], _ :: _, _, _, h => by cases h
  | _ :: _, [], _, _, h => by cases h
  | x :: a, y :: b, ha, hb, h => by
    rw [List.map_cons, List.map_cons] at h
    injection h with h1 h2
    have hx := ha x (by simp)
    have hy := hb y (by simp)
    rw [itoa_inj (by omega) (by omega) (by omega) (by omega) h1, map_itoa_inj a b (fun n hn => ha n (List.mem_cons_of_mem _ hn)) (fun n hn => hb n (List.mem_cons_of_mem _ hn)) h2]
theorem AI.whole {P : List (List UInt8)} {f f' b : Int} (h : AI P 4 f) (h0 : 0 ≤ f') (h1 : f' < 4294967296) (e : P = (four f').map Lib.itoa ++ [Lib.itoa b]) : f = f' := by
  obtain ⟨ns, hl, hr, ht, rfl⟩ := h
  have e4 : ((four f').map Lib.itoa).length = 4 := by unfold four; rfl
  rw [e, List.take_append_of_le_length (by omega), List.take_of_length_le (by omega)] at ht
  rw [← map_itoa_inj _ _ (four_le f' h0 h1) hr ht, four_fold]
/-- The k-th part of a block's text. -/
theorem blk_at {f b : Int} (h0 : 0 ≤ f) (h1 : f < 4294967296) {P : List (List UInt8)} (e : P = (four f).map Lib.itoa ++ [Lib.itoa b]) (k : Nat) (hk : k < 4) (hk2 : k < P.length) : ∃ n : Int, 0 ≤ n ∧ n ≤ 255 ∧ P[k] = Lib.itoa n := by
  subst e
  have e4 : (four f).length = 4 := by unfold four; rfl
  refine ⟨(four f)[k]'(by omega), (four_le f h0 h1 _ (List.getElem_mem _)).1, (four_le f h0 h1 _ (List.getElem_mem _)).2, ?_⟩
  rw [List.getElem_append_left (by simpa [e4] using hk), List.getElem_map]
theorem blk_last {f b : Int} {P : List (List UInt8)} (e : P = (four f).map Lib.itoa ++ [Lib.itoa b]) (hk2 : 4 < P.length) : P[4] = Lib.itoa b := by
  subst e
  unfold four
  rfl
theorem sp_len : ∀ l : List UInt8, ∀ p ∈ sp l, p.length ≤ l.length
  | [], p, h => by simp [sp] at h; subst h; simp
  | c :: t, p, h => by
    have ih := sp_len t
    unfold sp at h
    split at h
    · rw [List.mem_cons] at h
      rcases h with rfl | h
      · simp
      · have := ih p h; simp; omega
    · obtain ⟨q, r, e⟩ := sp_ne t
      rw [e] at h ih
      simp only [List.mem_cons] at h
      rcases h with rfl | h
      · have := ih q (by simp); simp; omega
      · have := ih p (List.mem_cons_of_mem _ h); simp; omega
theorem own_cell {w : World} {g e : Nat} {cur : Array Value} {P : List (List UInt8)} (hg : w.heap[g]? = some (.cells cur e (0, 0))) (ht : cur.toList.take (P.length * 1) = strsV P) (j : Nat) (h : j < P.length) : w.cell? ⟨g, j, none⟩ = some (.string ⟨P[j].toArray⟩) := by
  have h2 := congrArg (fun l => l[j]?) ht
  simp only [strsV, Nat.mul_one, List.getElem?_take, if_pos h, Array.getElem?_toList, List.getElem?_map, List.getElem?_eq_getElem h, Option.map_some] at h2
  simp [World.cell?, hg, h2]
theorem strip_step {Z : List UInt8} {d : UInt8} {t : List UInt8} (h : Z = 48 :: d :: t) : strip (d :: t) = strip Z := by rw [h]; simp [strip]
theorem strip_done {Z : List UInt8} (h : Z.length ≤ 1 ∨ ∃ c t, Z = c :: t ∧ ¬ c = 48) : strip Z = Z := by
  match Z, h with
  | [], _ => rfl
  | [_], _ => rfl
  | c :: d :: t, h =>
    rcases h with h | ⟨c', t', e, hc⟩
    · simp at h
    · injection e with e1 e2
      subst e1
      simp [strip, hc]
end Go.Proofs.YticidjceljjfnaaGreatDoor
/- spec.l1Guess: what it guesses fits. -/
namespace Go.Proofs.YticidjceljjfnaaGreatDoor
open Go.RowKit
set_option maxRecDepth 20000

set_option maxHeartbeats 4000000 in
theorem l1Guess_any (s : ByteArray) (w : World) (hz : 0 < s.size) (hs : s.size ≤ 500) :
    Calls Tryz.prog 78 #[.string s] w fun e w' => GARet s.data.toList e ∧ Below w.heap.size w w' := by
  have zs := sz_list s
  have b0 := bAl (Below.refl w.heap.size w) (.cells zAt 32)
  have B0 := hide b0
  have R := hide (RowIs.new w zAt 32)
  clear b0
  by_cases h1 : s.data.toList = [116, 114, 117, 101]
  · obtain rfl : s = ⟨#[116, 114, 117, 101]⟩ := eq_bytes h1
    go_enter Tryz.func78, Tryz.ntmps78
    go_wp2_with fail
    refine bodyPost_ret (v := .agg #[.int .i64 1, .int .i64 1, .string ⟨#[]⟩, .string ⟨#[]⟩]) (by simp [results, Tryz.results78, go_sem]) rfl ⟨⟨_, _, _, _, rfl, ga_tru⟩, ?_⟩
    first | exact bAl (Below.refl _ _) _ | exact below_set (below_set (below_set (below_set (bAl (Below.refl _ _) _) (Nat.le_refl _)) (Nat.le_refl _)) (Nat.le_refl _)) (Nat.le_refl _) | exact bAl (bAl (Below.refl _ _) _) _ | exact below_set (below_set (below_set (below_set (bAl (bAl (Below.refl _ _) _) _) (Nat.le_refl _)) (Nat.le_refl _)) (Nat.le_refl _)) (Nat.le_refl _)
  by_cases h2 : s.data.toList = [102, 97, 108, 115, 101]
  · obtain rfl : s = ⟨#[102, 97, 108, 115, 101]⟩ := eq_bytes h2
    go_enter Tryz.func78, Tryz.ntmps78
    go_wp2_with fail
    refine bodyPost_ret (v := .agg #[.int .i64 1, .int .i64 0, .string ⟨#[]⟩, .string ⟨#[]⟩]) (by simp [results, Tryz.results78, go_sem]) rfl ⟨⟨_, _, _, _, rfl, ga_fal⟩, ?_⟩
    first | exact bAl (Below.refl _ _) _ | exact below_set (below_set (below_set (below_set (bAl (Below.refl _ _) _) (Nat.le_refl _)) (Nat.le_refl _)) (Nat.le_refl _)) (Nat.le_refl _) | exact bAl (bAl (Below.refl _ _) _) _ | exact below_set (below_set (below_set (below_set (bAl (bAl (Below.refl _ _) _) _) (Nat.le_refl _)) (Nat.le_refl _)) (Nat.le_refl _)) (Nat.le_refl _)
  have e1 := neq_list h1
  have e2 := neq_list h2
  have ntf : Hid (NTF s.data.toList) := hide ⟨h1, h2⟩
  have hl := list_cons hz
  obtain ⟨c, hc⟩ : ∃ c, s[0] = c := ⟨_, rfl⟩
  rw [hc] at hl
  obtain ⟨r, hr⟩ : ∃ r, s.data.toList.drop 1 = r := ⟨_, rfl⟩
  have hX1 : (s.extract 1 s.size).data.toList = r := by rw [ext_one, hr]
  rw [hr] at hl
  have HL := hide hl
  have zl : (c :: r).length = s.size := by rw [← hl, zs]
  rw [hl]
  rw [hl] at ntf
  clear h1 h2 hl hr
  have e34 : ((c.toNat : Int) == 34) = decide (c = 34) := u8_is (n := 34) (by decide)
  have e64 : ((c.toNat : Int) == 64) = decide (c = 64) := u8_is (n := 64) (by decide)
  by_cases h34 : c = 34
  · have q := hide (fun w => l1Unquoted_any s w (by omega))
    rw [unhide HL] at q
    rw [decide_eq_true h34] at e34
    have HC := hide h34
    clear h34 e64
    go_enter Tryz.func78, Tryz.ntmps78
    go_wp2_with fail
    refine (unhide q _).mono ?_
    rintro e w2 ⟨⟨T, b, rfl, hu⟩, hb2⟩
    have ga := hide (show GA (c :: r) 3 0 T eB by
      rw [unhide HC] at hu zl ⊢
      exact ga_txt (by have := hu.1; omega) hu.2)
    clear hu
    have R2 := (unhide R).keep hb2
    have B2 := hide (bTr (unhide B0) hb2)
    have j0 : w2.cell? ⟨w.heap.size, 0, none⟩ = some (.int .i64 0) := R2.get rfl
    have j1 : w2.cell? ⟨w.heap.size, 1, none⟩ = some (.int .i64 0) := R2.get rfl
    have j2 : w2.cell? ⟨w.heap.size, 2, none⟩ = some (.string ⟨#[]⟩) := R2.get rfl
    have j3 : w2.cell? ⟨w.heap.size, 3, none⟩ = some (.string ⟨#[]⟩) := R2.get rfl
    have f0 := R2.frz 0
    have f1 := R2.frz 1
    have f2 := R2.frz 2
    have f3 := R2.frz 3
    clear hb2 R2
    go_wp2_with fail
    refine bodyPost_ret (v := .agg #[.int .i64 3, .int .i64 0, .string T, .string ⟨#[]⟩]) (by simp [results, Tryz.results78, go_sem, j0, j1, j2, j3]) rfl ⟨⟨_, _, _, _, rfl, unhide ga⟩, ?_⟩
    exact below_set (below_set (below_set (below_set (unhide B2) (Nat.le_refl _)) (Nat.le_refl _)) (Nat.le_refl _)) (Nat.le_refl _)
  rw [decide_eq_false h34] at e34
  by_cases h64 : c = 64
  · have X : (s.extract 1 s.size).size ≤ 1048576 := by rw [ByteArray.size_extract]; omega
    have q := hide (fun w => l1Whole_any (s.extract 1 s.size) w X)
    rw [hX1] at q
    rw [decide_eq_true h64] at e64
    have HC := hide h64
    clear h64 h34 X hX1
    go_enter Tryz.func78, Tryz.ntmps78
    go_wp2_with fail
    refine (unhide q _).mono ?_
    rintro e w2 ⟨⟨N, b, rfl, hw⟩, hb2⟩
    have ga := hide (show GA (c :: r) 7 N eB eB by rw [unhide HC]; exact ga_tim (r := r) hw.h0 hw.h1 (fun n a b e => (hw.all n a b e).1))
    have hN0 := hw.h0
    have hN1 := hw.h1
    clear hw
    have R2 := (unhide R).keep hb2
    have B2 := hide (bTr (unhide B0) hb2)
    have j0 : w2.cell? ⟨w.heap.size, 0, none⟩ = some (.int .i64 0) := R2.get rfl
    have j1 : w2.cell? ⟨w.heap.size, 1, none⟩ = some (.int .i64 0) := R2.get rfl
    have j2 : w2.cell? ⟨w.heap.size, 2, none⟩ = some (.string ⟨#[]⟩) := R2.get rfl
    have j3 : w2.cell? ⟨w.heap.size, 3, none⟩ = some (.string ⟨#[]⟩) := R2.get rfl
    have f0 := R2.frz 0
    have f1 := R2.frz 1
    have f2 := R2.frz 2
    have f3 := R2.frz 3
    clear hb2 R2
    go_wp2_with fail
    refine bodyPost_ret (v := .agg #[.int .i64 7, .int .i64 N, .string ⟨#[]⟩, .string ⟨#[]⟩]) (by simp [results, Tryz.results78, go_sem, j0, j1, j2, j3]) rfl ⟨⟨_, _, _, _, rfl, unhide ga⟩, ?_⟩
    exact below_set (below_set (below_set (below_set (unhide B2) (Nat.le_refl _)) (Nat.le_refl _)) (Nat.le_refl _)) (Nat.le_refl _)
  rw [decide_eq_false h64] at e64
  clear hX1
  have q := hide (fun w => l1Whole_any s w (by omega))
  rw [unhide HL] at q
  go_enter Tryz.func78, Tryz.ntmps78
  go_wp2_with fail
  refine (unhide q _).mono ?_
  rintro e w2 ⟨⟨N, b, rfl, hw⟩, hb2⟩
  cases b with
  | true =>
    have ga := hide (ga_whole hw.h0 hw.h1 (hw.yes rfl))
    have hN0 := hw.h0
    have hN1 := hw.h1
    clear hw
    have R2 := (unhide R).keep hb2
    have B2 := hide (bTr (unhide B0) hb2)
    have j0 : w2.cell? ⟨w.heap.size, 0, none⟩ = some (.int .i64 0) := R2.get rfl
    have j1 : w2.cell? ⟨w.heap.size, 1, none⟩ = some (.int .i64 0) := R2.get rfl
    have j2 : w2.cell? ⟨w.heap.size, 2, none⟩ = some (.string ⟨#[]⟩) := R2.get rfl
    have j3 : w2.cell? ⟨w.heap.size, 3, none⟩ = some (.string ⟨#[]⟩) := R2.get rfl
    have f0 := R2.frz 0
    have f1 := R2.frz 1
    have f2 := R2.frz 2
    have f3 := R2.frz 3
    clear hb2 R2
    go_wp2_with fail
    refine bodyPost_ret (v := .agg #[.int .i64 2, .int .i64 N, .string ⟨#[]⟩, .string ⟨#[]⟩]) (by simp [results, Tryz.results78, go_sem, j0, j1, j2, j3]) rfl ⟨⟨_, _, _, _, rfl, unhide ga⟩, ?_⟩
    exact below_set (below_set (below_set (below_set (unhide B2) (Nat.le_refl _)) (Nat.le_refl _)) (Nat.le_refl _)) (Nat.le_refl _)
  | false =>
    have HNo := hide (show ∀ n : Int, -9223372036854775808 ≤ n → n ≤ 9223372036854775807 → ¬ c :: r = Lib.itoa n from fun n a b e => by have := (hw.all n a b e).2; cases this)
    replace R := hide ((unhide R).keep hb2)
    have B2 := hide (bTr (unhide B0) hb2)
    clear hw hb2 B0 q
    go_wp2_with fail
    go_loopw [10] (fun i w' => ∃ (k : Nat), k ≤ s.size ∧ i = .int .i64 k ∧ Hid (∀ j (h : j + 1 < s.data.toList.length), j < k → ¬ (s.data.toList[j] = 58 ∧ s.data.toList[j + 1] = 58)) ∧ Hid (Below w2.heap.size w2 w')) (fun i _ => s.size + 1 - (intOf i).toNat)
    case atStart => exact ⟨0, Nat.zero_le _, rfl, hide (fun j _ hj => absurd hj (Nat.not_lt_zero j)), hide (Below.refl _ _)⟩
    case round =>
      obtain ⟨k, hk, rfl, hno, hb⟩ := hrel
      by_cases hlt : k + 1 < s.size
      · have hk0 : k < s.size := by omega
        obtain ⟨c1, hc1⟩ : ∃ c1, s[k] = c1 := ⟨_, rfl⟩
        obtain ⟨c2, hc2⟩ : ∃ c2, s[k + 1] = c2 := ⟨_, rfl⟩
        have l1 : s.data.toList[k]'(by omega) = c1 := by rw [← hc1]; rfl
        have l2 : s.data.toList[k + 1]'(by omega) = c2 := by rw [← hc2]; rfl
        have g1 : ((c1.toNat : Int) == 58) = decide (c1 = 58) := u8_is (n := 58) (by decide)
        have g2 : ((c2.toNat : Int) == 58) = decide (c2 = 58) := u8_is (n := 58) (by decide)
        have st := hide (show ¬ (c1 = 58 ∧ c2 = 58) → ∀ j (h : j + 1 < s.data.toList.length), j < k + 1 → ¬ (s.data.toList[j] = 58 ∧ s.data.toList[j + 1] = 58) from fun hn j h hj => by
          rcases Nat.lt_succ_iff_lt_or_eq.1 hj with h2 | rfl
          · exact unhide hno j h h2
          · rw [l1, l2]; exact hn)
        by_cases p1 : c1 = 58
        · by_cases p2 : c2 = 58
          · have zX : (s.extract (k + 2) s.size).size ≤ 1048576 := by rw [ByteArray.size_extract]; omega
            have q2 := hide (fun w => l1Unquoted_any (s.extract (k + 2) s.size) w zX)
            rw [show (s.extract (k + 2) s.size).data.toList = s.data.toList.drop (k + 2) by rw [cut_drop]] at q2
            have ga := hide (show ∀ T : ByteArray, UnqIs (s.data.toList.drop (k + 2)) T → GA (c :: r) 4 0 T (s.extract 0 k) from fun T hu => ga_ref (by have := hu.1; rw [List.length_drop] at this; omega) (by rw [ByteArray.size_extract]; omega) (unhide ntf) h34 h64 (fun _ => by rw [← unhide HL, ← p1, ← l1]; exact List.getElem_mem _) (fun y t hy e => by
              obtain ⟨a, b⟩ := ref_at (l := s.data.toList) (k := k) (by omega) (by rw [l1, p1]) (fun j h hj => unhide hno j h hj) hy (by rw [unhide HL, e])
              exact ⟨by rw [cut_take, a], hu.2 t b⟩))
            rw [decide_eq_true p1] at g1
            rw [decide_eq_true p2] at g2
            clear st hno l1 l2 p1 p2
            go_wp2_with fail
            refine (unhide q2 _).mono ?_
            rintro e w3 ⟨⟨T, b, rfl, hu⟩, hb3⟩
            have ga2 := hide (unhide ga T hu)
            clear hu ga
            have R3 := (unhide R).keep (bTr (unhide hb) hb3)
            have B3 := hide (bTr (unhide B2) (bTr (unhide hb) hb3))
            have j0 : w3.cell? ⟨w.heap.size, 0, none⟩ = some (.int .i64 0) := R3.get rfl
            have j1 : w3.cell? ⟨w.heap.size, 1, none⟩ = some (.int .i64 0) := R3.get rfl
            have j2 : w3.cell? ⟨w.heap.size, 2, none⟩ = some (.string ⟨#[]⟩) := R3.get rfl
            have j3 : w3.cell? ⟨w.heap.size, 3, none⟩ = some (.string ⟨#[]⟩) := R3.get rfl
            have f0 := R3.frz 0
            have f1 := R3.frz 1
            have f2 := R3.frz 2
            have f3 := R3.frz 3
            clear hb3 R3 hb
            go_wp2_with fail
            refine bodyPost_ret (v := .agg #[.int .i64 4, .int .i64 0, .string T, .string (s.extract 0 k)]) (by simp [results, Tryz.results78, go_sem, j0, j1, j2, j3]) rfl ⟨⟨_, _, _, _, rfl, unhide ga2⟩, ?_⟩
            exact below_set (below_set (below_set (below_set (unhide B3) (Nat.le_refl _)) (Nat.le_refl _)) (Nat.le_refl _)) (Nat.le_refl _)
          · have st2 := hide (unhide st (fun h => p2 h.2))
            rw [decide_eq_true p1] at g1
            rw [decide_eq_false p2] at g2
            clear st hno l1 l2 p1 p2
            go_wp2_with fail
            exact ⟨⟨k + 1, by omega, by simp, st2, hb⟩, by simp [intOf]; omega⟩
        · have st2 := hide (unhide st (fun h => p1 h.1))
          rw [decide_eq_false p1] at g1
          clear st hno l1 l2 p1
          go_wp2_with fail
          exact ⟨⟨k + 1, by omega, by simp, st2, hb⟩, by simp [intOf]; omega⟩
      · have nor := hide (show namB (c.toNat : Int) = true → ∀ y t : List UInt8, ¬ c :: r = y ++ 58 :: 58 :: quo t from fun _ y t e => ref_no (l := s.data.toList) (k := k) (by omega) (fun j h hj => unhide hno j h hj) y t (by rw [unhide HL, e]))
        replace R := hide ((unhide R).keep (unhide hb))
        replace B2 := hide (bTr (unhide B2) (unhide hb))
        clear hno hb
        obtain ⟨W4, hW4⟩ : ∃ W4, W4 = wr := ⟨_, rfl⟩
        subst hW4
        obtain ⟨i0, hi, hz0, hz1, hz2⟩ := info_parts info_str
        go_wp2_with fail
        go_loopw [13, 14, 15] (fun v g i w' => ∃ (k f : Nat) (P : List (List UInt8)), k ≤ s.size + 1 ∧ f ≤ k ∧ P.length ≤ k ∧ g = .int .i64 f ∧ i = .int .i64 k ∧ Hid (w'.ownsRow W4.heap.size 9 1 v P.length (strsV P)) ∧ Hid (Below W4.heap.size W4 w') ∧ Hid (PI s.data.toList k f P)) (fun _ _ i _ => s.size + 2 - (intOf i).toNat)
        case atStart => exact ⟨0, 0, [], by omega, by omega, by simp, rfl, rfl, hide (World.ownsRow_nil _ _ _ _), hide (Below.refl _ _), hide (.inl ⟨by omega, by omega, rfl, fun j _ a b => by omega⟩)⟩
        case round =>
          obtain ⟨k, f, P, hk1, hf, hP, rfl, rfl, hown, hb, hpi⟩ := hrel
          by_cases hle : k ≤ s.size
          · have hfk := (unhide hpi).le (by omega)
            have em := mid_bytes s f k
            have x0 : (f : Int) ≤ (k : Int) := by omega
            have x1 : (k : Int) ≤ (s.size : Int) := by omega
            by_cases hend : k = s.size
            · subst hend
              have st := hide ((unhide hpi).last (by omega))
              clear hpi
              go_wp2_with (at_builtin; refine wpList_append_own_at _ rfl _ _ 25 rfl W4.heap.size 9 i0 _ 1 16 Tryz.underlying25 hi hz0 hz1 hz2 rfl (by decide) _ _ _ rfl ((unhide hown).alloc _) ⟨_, 0, none⟩ 1 1 [.string _] rfl rfl (cell_one_new _ _ _) (fun x hx => by simp at hx; subst hx; rfl) (by unfold maxLen; omega) (by omega) (by have := (unhide hb).size; simp; omega) ?_; intro v3 w3 hown3 hgrow3 _ hat3)
              refine ⟨⟨s.size + 1, s.size + 1, P ++ [(s.data.toList.drop f).take (s.size - f)], by omega, by omega, by simp; omega, by simp, by simp, hide ?_, hide ((bAl (unhide hb) _).grown hgrow3 (by have := (unhide hb).size; simp; omega) (fun j hj => ((unhide hown).lt j hj).1)), st⟩, by simp [intOf]⟩
              simpa [strsV] using hown3
            · have hk : k < s.size := by omega
              obtain ⟨c3, hc3⟩ : ∃ c3, s[k] = c3 := ⟨_, rfl⟩
              have l3 : s.data.toList[k]'(by omega) = c3 := by rw [← hc3]; rfl
              have xe : ((k : Int) == (s.size : Int)) = false := by rw [beq_eq_false_iff_ne]; omega
              have g46 : ((c3.toNat : Int) == 46) = decide (c3 = 46) := u8_is (n := 46) (by decide)
              have g47 : ((c3.toNat : Int) == 47) = decide (c3 = 47) := u8_is (n := 47) (by decide)
              by_cases p46 : c3 = 46
              · have st := hide ((unhide hpi).hit (by omega) (by rw [l3, p46]; rfl))
                rw [decide_eq_true p46] at g46
                clear hpi l3 p46 g47
                go_wp2_with (at_builtin; refine wpList_append_own_at _ rfl _ _ 25 rfl W4.heap.size 9 i0 _ 1 16 Tryz.underlying25 hi hz0 hz1 hz2 rfl (by decide) _ _ _ rfl ((unhide hown).alloc _) ⟨_, 0, none⟩ 1 1 [.string _] rfl rfl (cell_one_new _ _ _) (fun x hx => by simp at hx; subst hx; rfl) (by unfold maxLen; omega) (by omega) (by have := (unhide hb).size; simp; omega) ?_; intro v3 w3 hown3 hgrow3 _ hat3)
                refine ⟨⟨k + 1, k + 1, P ++ [(s.data.toList.drop f).take (k - f)], by omega, by omega, by simp; omega, by simp, by simp, hide ?_, hide ((bAl (unhide hb) _).grown hgrow3 (by have := (unhide hb).size; simp; omega) (fun j hj => ((unhide hown).lt j hj).1)), st⟩, by simp [intOf]; omega⟩
                simpa [strsV] using hown3
              · rw [decide_eq_false p46] at g46
                by_cases p47 : c3 = 47
                · have st := hide ((unhide hpi).hit (by omega) (by rw [l3, p47]; rfl))
                  rw [decide_eq_true p47] at g47
                  clear hpi l3 p46 p47
                  go_wp2_with (at_builtin; refine wpList_append_own_at _ rfl _ _ 25 rfl W4.heap.size 9 i0 _ 1 16 Tryz.underlying25 hi hz0 hz1 hz2 rfl (by decide) _ _ _ rfl ((unhide hown).alloc _) ⟨_, 0, none⟩ 1 1 [.string _] rfl rfl (cell_one_new _ _ _) (fun x hx => by simp at hx; subst hx; rfl) (by unfold maxLen; omega) (by omega) (by have := (unhide hb).size; simp; omega) ?_; intro v3 w3 hown3 hgrow3 _ hat3)
                  refine ⟨⟨k + 1, k + 1, P ++ [(s.data.toList.drop f).take (k - f)], by omega, by omega, by simp; omega, by simp, by simp, hide ?_, hide ((bAl (unhide hb) _).grown hgrow3 (by have := (unhide hb).size; simp; omega) (fun j hj => ((unhide hown).lt j hj).1)), st⟩, by simp [intOf]; omega⟩
                  simpa [strsV] using hown3
                · have st := hide ((unhide hpi).miss (by omega) (by rw [l3]; unfold sepB; simp [p46, p47]))
                  rw [decide_eq_false p47] at g47
                  clear hpi l3 p46 p47
                  go_wp2_with fail
                  exact ⟨⟨k + 1, f, P, by omega, by omega, by omega, rfl, by simp, hown, hb, st⟩, by simp [intOf]; omega⟩
          · have hsp : P = sp s.data.toList := by
              rcases unhide hpi with ⟨h, _⟩ | ⟨_, h⟩
              · omega
              · exact h
            clear hpi
            replace R := hide ((unhide R).keep (unhide hb))
            replace B2 := hide (bTr (unhide B2) (unhide hb))
            rw [unhide HL] at hsp
            have nga := hide (fun h2 ha => ga_none (unhide ntf) h34 h64 (unhide nor) (unhide HNo) h2 ha)
            rcases (unhide hown).2 with ⟨_, e0⟩ | ⟨g, cap, cur, hv, hgb, hgc, hn1, hn2, hcs, htk⟩
            · exfalso; obtain ⟨p, r', e⟩ := sp_ne (c :: r); rw [hsp, e] at e0; simp at e0
            subst hv
            have cel := hide (own_cell hgc htk)
            have hsz := hide (show ∀ p ∈ P, p.length ≤ s.size by rw [hsp, ← zl]; exact sp_len _)
            clear hb hown htk hcs hgc
            by_cases h2 : P.length = 2
            · obtain ⟨A0, B0, eP⟩ : ∃ A0 B0, P = [A0, B0] := by
                match P, h2 with
                | [a, b], _ => exact ⟨a, b, rfl⟩
              have c0 : wr.cell? ⟨g, 0, none⟩ = some (.string ⟨A0.toArray⟩) := by have := unhide cel 0 (by omega); simpa [eP] using this
              have c1 : wr.cell? ⟨g, 1, none⟩ = some (.string ⟨B0.toArray⟩) := by have := unhide cel 1 (by omega); simpa [eP] using this
              have zA : A0.length ≤ s.size := unhide hsz A0 (by rw [eP]; simp)
              have zB : B0.length ≤ s.size := unhide hsz B0 (by rw [eP]; simp)
              have ga := hide (fun N b hw => ga_two (N := N) (b := b) (unhide ntf) h34 h64 (unhide nor) (unhide HNo) (by rw [← hsp, eP]) hw)
              obtain ⟨X, hX⟩ : ∃ X : ByteArray, (⟨A0.toArray⟩ ++ ⟨B0.toArray⟩ : ByteArray) = X := ⟨_, rfl⟩
              have lX : X.data.toList = A0 ++ B0 := by rw [← hX]; simp
              have zX : X.size ≤ 1000 := by rw [← sz_list X, lX, List.length_append]; omega
              rw [← lX] at ga
              have sA : (⟨A0.toArray⟩ : ByteArray).size = A0.length := sz_arr A0
              have sB : (⟨B0.toArray⟩ : ByteArray).size = B0.length := sz_arr B0
              have zg : g < wr.heap.size := World.block_lt_of_cell? wr _ c0
              have ne : Nonempty (Kept wr) := ⟨⟨wr, Below.refl _ _⟩⟩
              have k0 := kept_cell zg c0
              have k1 := kept_cell zg c1
              clear cel hsz hsp eP nga c0 c1
              rw [h2]
              have hc2 : 2 ≤ cap := by omega
              clear h2 hn1
              go_wp2_with fail
              refine wp_region_kept (by kernel_rfl) (by kernel_rfl) ?_
              repeat (first | go_big_quiet_step (fail) | quiet_step (fail))
              refine wpQuiet_nil ?_
              rintro w5 ⟨q, hq⟩
              have hb5 : Below wr.heap.size wr w5 := by rw [hq]; exact q.h
              clear hq q
              replace R := hide ((unhide R).keep hb5)
              have B5 := hide (bTr (unhide B2) hb5)
              clear ne k0 k1 hb5 B2
              try simp only [hX]
              clear hX sA sB
              have eX := sz_list X
              by_cases hX0 : X.size = 0
              · have eE : X = eB := by apply emp_of; rw [ByteArray.toList_eq]; have : X.data.toList = [] := List.length_eq_zero_iff.1 (by omega); rw [this]; rfl
                obtain ⟨Y, hY⟩ : ∃ Y, Y = X := ⟨_, rfl⟩
                have hD := hide (show outD X.data.toList = strip Y.data.toList by rw [hY, eE]; rfl)
                have zY : Y.size ≤ 1000 := by rw [hY]; exact zX
                have xe : X.toList.isEmpty = true := by rw [eE, ByteArray.toList_eq]; rfl
                clear eE
                go_wp2_with fail
                go_loopw [16] (fun v w' => ∃ Z : ByteArray, v = .string Z ∧ Z.size ≤ 1000 ∧ w' = w5 ∧ Hid (strip Z.data.toList = strip Y.data.toList)) (fun v _ => (match v with | .string Z => Z.size | _ => 0))
                case atStart => exact ⟨Y, by first | rfl | rw [hY], by omega, rfl, hide rfl⟩
                case round =>
                  obtain ⟨Z, rfl, hZ, rfl, hst⟩ := hrel
                  have lZ := sz_list Z
                  by_cases hz1 : 1 < Z.size
                  · obtain ⟨d0, hd0⟩ : ∃ d0, Z[0] = d0 := ⟨_, rfl⟩
                    have e48 : ((d0.toNat : Int) == 48) = decide (d0 = 48) := u8_is (n := 48) (by decide)
                    have hcons := list_cons (s := Z) (by omega)
                    rw [hd0] at hcons
                    by_cases p48 : d0 = 48
                    · have st := hide (show strip (Z.extract 1 Z.size).data.toList = strip Y.data.toList by
                        rw [ext_one, ← unhide hst]
                        rw [hcons] at lZ ⊢
                        cases hd : Z.data.toList.drop 1 with
                        | nil => rw [hd] at lZ; simp at lZ; omega
                        | cons a b => rw [p48]; exact strip_step rfl)
                      have se : (Z.extract 1 Z.size).size = Z.size - 1 := by rw [ByteArray.size_extract]; omega
                      rw [decide_eq_true p48] at e48
                      clear hcons p48 hst
                      go_wp2_with fail
                      exact ⟨⟨_, rfl, by omega, trivial, st⟩, by show (Z.extract 1 Z.size).size < Z.size; omega⟩
                    · have eZ := hide (show Z.data.toList = strip Y.data.toList by rw [← unhide hst]; exact (strip_done (.inr ⟨_, _, hcons, p48⟩)).symm)
                      rw [decide_eq_false p48] at e48
                      clear hcons p48 hst
                      have q5 := hide (fun w => l1Whole_any Z w (by omega))
                      rw [show Z.data.toList = outD X.data.toList by rw [unhide eZ, unhide hD]] at q5
                      go_wp2_with fail
                      refine (unhide q5 _).mono ?_
                      rintro e w6 ⟨⟨N6, b6, rfl, hw6⟩, hb6⟩
                      have ga6 := hide (unhide ga N6 b6 hw6)
                      have hN0 := hw6.h0
                      have hN1 := hw6.h1
                      have R6 := (unhide R).keep hb6
                      have B6 := hide (bTr (unhide B5) hb6)
                      have j0 : w6.cell? ⟨w.heap.size, 0, none⟩ = some (.int .i64 0) := (R6).get rfl
                      have j1 : w6.cell? ⟨w.heap.size, 1, none⟩ = some (.int .i64 0) := (R6).get rfl
                      have j2 : w6.cell? ⟨w.heap.size, 2, none⟩ = some (.string ⟨#[]⟩) := (R6).get rfl
                      have j3 : w6.cell? ⟨w.heap.size, 3, none⟩ = some (.string ⟨#[]⟩) := (R6).get rfl
                      have f0 := (R6).frz 0
                      have f1 := (R6).frz 1
                      have f2 := (R6).frz 2
                      have f3 := (R6).frz 3
                      clear hb6 R6 hw6 q5
                      go_wp2_with fail
                      refine bodyPost_ret (v := .agg #[.int .i64 5, .int .i64 N6, .string ⟨#[]⟩, .string ⟨#[]⟩]) (by simp [results, Tryz.results78, go_sem, j0, j1, j2, j3]) rfl ⟨⟨_, _, _, _, rfl, unhide ga6⟩, ?_⟩
                      first | exact unhide B6 | exact below_set (below_set (below_set (below_set (unhide B6) (Nat.le_refl _)) (Nat.le_refl _)) (Nat.le_refl _)) (Nat.le_refl _)
                  · have eZ := hide (show Z.data.toList = strip Y.data.toList by rw [← unhide hst]; exact (strip_done (.inl (by omega))).symm)
                    clear hst
                    have q5 := hide (fun w => l1Whole_any Z w (by omega))
                    rw [show Z.data.toList = outD X.data.toList by rw [unhide eZ, unhide hD]] at q5
                    go_wp2_with fail
                    refine (unhide q5 _).mono ?_
                    rintro e w6 ⟨⟨N6, b6, rfl, hw6⟩, hb6⟩
                    have ga6 := hide (unhide ga N6 b6 hw6)
                    have hN0 := hw6.h0
                    have hN1 := hw6.h1
                    have R6 := (unhide R).keep hb6
                    have B6 := hide (bTr (unhide B5) hb6)
                    have j0 : w6.cell? ⟨w.heap.size, 0, none⟩ = some (.int .i64 0) := (R6).get rfl
                    have j1 : w6.cell? ⟨w.heap.size, 1, none⟩ = some (.int .i64 0) := (R6).get rfl
                    have j2 : w6.cell? ⟨w.heap.size, 2, none⟩ = some (.string ⟨#[]⟩) := (R6).get rfl
                    have j3 : w6.cell? ⟨w.heap.size, 3, none⟩ = some (.string ⟨#[]⟩) := (R6).get rfl
                    have f0 := (R6).frz 0
                    have f1 := (R6).frz 1
                    have f2 := (R6).frz 2
                    have f3 := (R6).frz 3
                    clear hb6 R6 hw6 q5
                    go_wp2_with fail
                    refine bodyPost_ret (v := .agg #[.int .i64 5, .int .i64 N6, .string ⟨#[]⟩, .string ⟨#[]⟩]) (by simp [results, Tryz.results78, go_sem, j0, j1, j2, j3]) rfl ⟨⟨_, _, _, _, rfl, unhide ga6⟩, ?_⟩
                    first | exact unhide B6 | exact below_set (below_set (below_set (below_set (unhide B6) (Nat.le_refl _)) (Nat.le_refl _)) (Nat.le_refl _)) (Nat.le_refl _)
              · have xe : X.toList.isEmpty = false := by
                  rw [ByteArray.toList_eq]
                  cases h : X.data.toList with
                  | nil => rw [h] at eX; simp at eX; omega
                  | cons _ _ => rfl
                have x0 : 0 < X.size := by omega
                have hcX := list_cons x0
                obtain ⟨d, hd⟩ : ∃ d, X[0] = d := ⟨_, rfl⟩
                rw [hd] at hcX
                have e45 : ((d.toNat : Int) == 45) = decide (d = 45) := u8_is (n := 45) (by decide)
                by_cases p45 : d = 45
                · obtain ⟨Y, hY⟩ : ∃ Y, Y = X.extract 1 X.size := ⟨_, rfl⟩
                  have hD := hide (show outD X.data.toList = if strip Y.data.toList = [48] then strip Y.data.toList else 45 :: strip Y.data.toList by
                    rw [hY, ext_one]
                    obtain ⟨T, hT⟩ : ∃ T, X.data.toList.drop 1 = T := ⟨_, rfl⟩
                    rw [hT] at hcX ⊢
                    rw [hcX, p45]
                    unfold outD magD negD
                    by_cases hh : strip T = [48] <;> simp [hh])
                  have zY : Y.size ≤ 1000 := by rw [hY, ByteArray.size_extract]; omega
                  rw [decide_eq_true p45] at e45
                  clear hcX p45
                  go_wp2_with fail
                  go_loopw [16] (fun v w' => ∃ Z : ByteArray, v = .string Z ∧ Z.size ≤ 1000 ∧ w' = w5 ∧ Hid (strip Z.data.toList = strip Y.data.toList)) (fun v _ => (match v with | .string Z => Z.size | _ => 0))
                  case atStart => exact ⟨Y, by first | rfl | rw [hY], by omega, rfl, hide rfl⟩
                  case round =>
                    obtain ⟨Z, rfl, hZ, rfl, hst⟩ := hrel
                    have lZ := sz_list Z
                    by_cases hz1 : 1 < Z.size
                    · obtain ⟨d0, hd0⟩ : ∃ d0, Z[0] = d0 := ⟨_, rfl⟩
                      have e48 : ((d0.toNat : Int) == 48) = decide (d0 = 48) := u8_is (n := 48) (by decide)
                      have hcons := list_cons (s := Z) (by omega)
                      rw [hd0] at hcons
                      by_cases p48 : d0 = 48
                      · have st := hide (show strip (Z.extract 1 Z.size).data.toList = strip Y.data.toList by
                          rw [ext_one, ← unhide hst]
                          rw [hcons] at lZ ⊢
                          cases hd : Z.data.toList.drop 1 with
                          | nil => rw [hd] at lZ; simp at lZ; omega
                          | cons a b => rw [p48]; exact strip_step rfl)
                        have se : (Z.extract 1 Z.size).size = Z.size - 1 := by rw [ByteArray.size_extract]; omega
                        rw [decide_eq_true p48] at e48
                        clear hcons p48 hst
                        go_wp2_with fail
                        exact ⟨⟨_, rfl, by omega, trivial, st⟩, by show (Z.extract 1 Z.size).size < Z.size; omega⟩
                      · have eZ := hide (show Z.data.toList = strip Y.data.toList by rw [← unhide hst]; exact (strip_done (.inr ⟨_, _, hcons, p48⟩)).symm)
                        rw [decide_eq_false p48] at e48
                        clear hcons p48 hst
                        by_cases hz : Z.data.toList = [48]
                        · have z0 : (Z.toList == [48]) = true := by rw [ByteArray.toList_eq, hz]; rfl
                          have q5 := hide (fun w => l1Whole_any Z w (by omega))
                          rw [show Z.data.toList = outD X.data.toList by rw [unhide hD, ← unhide eZ, hz]; rfl] at q5
                          go_wp2_with fail
                          refine (unhide q5 _).mono ?_
                          rintro e w6 ⟨⟨N6, b6, rfl, hw6⟩, hb6⟩
                          have ga6 := hide (unhide ga N6 b6 hw6)
                          have hN0 := hw6.h0
                          have hN1 := hw6.h1
                          have R6 := (unhide R).keep hb6
                          have B6 := hide (bTr (unhide B5) hb6)
                          have j0 : w6.cell? ⟨w.heap.size, 0, none⟩ = some (.int .i64 0) := (R6).get rfl
                          have j1 : w6.cell? ⟨w.heap.size, 1, none⟩ = some (.int .i64 0) := (R6).get rfl
                          have j2 : w6.cell? ⟨w.heap.size, 2, none⟩ = some (.string ⟨#[]⟩) := (R6).get rfl
                          have j3 : w6.cell? ⟨w.heap.size, 3, none⟩ = some (.string ⟨#[]⟩) := (R6).get rfl
                          have f0 := (R6).frz 0
                          have f1 := (R6).frz 1
                          have f2 := (R6).frz 2
                          have f3 := (R6).frz 3
                          clear hb6 R6 hw6 q5
                          go_wp2_with fail
                          refine bodyPost_ret (v := .agg #[.int .i64 5, .int .i64 N6, .string ⟨#[]⟩, .string ⟨#[]⟩]) (by simp [results, Tryz.results78, go_sem, j0, j1, j2, j3]) rfl ⟨⟨_, _, _, _, rfl, unhide ga6⟩, ?_⟩
                          first | exact unhide B6 | exact below_set (below_set (below_set (below_set (unhide B6) (Nat.le_refl _)) (Nat.le_refl _)) (Nat.le_refl _)) (Nat.le_refl _)
                        · have z0 : (Z.toList == [48]) = false := neq_list hz
                          have zz : (⟨#[45]⟩ ++ Z : ByteArray).size ≤ 1001 := by rw [ByteArray.size_append]; show 1 + _ ≤ _; omega
                          have lz : (⟨#[45]⟩ ++ Z : ByteArray).data.toList = outD X.data.toList := by rw [unhide hD, ← unhide eZ]; simp [hz]
                          have q5 := hide (fun w => l1Whole_any (⟨#[45]⟩ ++ Z) w (by omega))
                          rw [lz] at q5
                          go_wp2_with fail
                          refine (unhide q5 _).mono ?_
                          rintro e w6 ⟨⟨N6, b6, rfl, hw6⟩, hb6⟩
                          have ga6 := hide (unhide ga N6 b6 hw6)
                          have hN0 := hw6.h0
                          have hN1 := hw6.h1
                          have R6 := (unhide R).keep hb6
                          have B6 := hide (bTr (unhide B5) hb6)
                          have j0 : w6.cell? ⟨w.heap.size, 0, none⟩ = some (.int .i64 0) := (R6).get rfl
                          have j1 : w6.cell? ⟨w.heap.size, 1, none⟩ = some (.int .i64 0) := (R6).get rfl
                          have j2 : w6.cell? ⟨w.heap.size, 2, none⟩ = some (.string ⟨#[]⟩) := (R6).get rfl
                          have j3 : w6.cell? ⟨w.heap.size, 3, none⟩ = some (.string ⟨#[]⟩) := (R6).get rfl
                          have f0 := (R6).frz 0
                          have f1 := (R6).frz 1
                          have f2 := (R6).frz 2
                          have f3 := (R6).frz 3
                          clear hb6 R6 hw6 q5
                          go_wp2_with fail
                          refine bodyPost_ret (v := .agg #[.int .i64 5, .int .i64 N6, .string ⟨#[]⟩, .string ⟨#[]⟩]) (by simp [results, Tryz.results78, go_sem, j0, j1, j2, j3]) rfl ⟨⟨_, _, _, _, rfl, unhide ga6⟩, ?_⟩
                          first | exact unhide B6 | exact below_set (below_set (below_set (below_set (unhide B6) (Nat.le_refl _)) (Nat.le_refl _)) (Nat.le_refl _)) (Nat.le_refl _)
                    · have eZ := hide (show Z.data.toList = strip Y.data.toList by rw [← unhide hst]; exact (strip_done (.inl (by omega))).symm)
                      clear hst
                      by_cases hz : Z.data.toList = [48]
                      · have z0 : (Z.toList == [48]) = true := by rw [ByteArray.toList_eq, hz]; rfl
                        have q5 := hide (fun w => l1Whole_any Z w (by omega))
                        rw [show Z.data.toList = outD X.data.toList by rw [unhide hD, ← unhide eZ, hz]; rfl] at q5
                        go_wp2_with fail
                        refine (unhide q5 _).mono ?_
                        rintro e w6 ⟨⟨N6, b6, rfl, hw6⟩, hb6⟩
                        have ga6 := hide (unhide ga N6 b6 hw6)
                        have hN0 := hw6.h0
                        have hN1 := hw6.h1
                        have R6 := (unhide R).keep hb6
                        have B6 := hide (bTr (unhide B5) hb6)
                        have j0 : w6.cell? ⟨w.heap.size, 0, none⟩ = some (.int .i64 0) := (R6).get rfl
                        have j1 : w6.cell? ⟨w.heap.size, 1, none⟩ = some (.int .i64 0) := (R6).get rfl
                        have j2 : w6.cell? ⟨w.heap.size, 2, none⟩ = some (.string ⟨#[]⟩) := (R6).get rfl
                        have j3 : w6.cell? ⟨w.heap.size, 3, none⟩ = some (.string ⟨#[]⟩) := (R6).get rfl
                        have f0 := (R6).frz 0
                        have f1 := (R6).frz 1
                        have f2 := (R6).frz 2
                        have f3 := (R6).frz 3
                        clear hb6 R6 hw6 q5
                        go_wp2_with fail
                        refine bodyPost_ret (v := .agg #[.int .i64 5, .int .i64 N6, .string ⟨#[]⟩, .string ⟨#[]⟩]) (by simp [results, Tryz.results78, go_sem, j0, j1, j2, j3]) rfl ⟨⟨_, _, _, _, rfl, unhide ga6⟩, ?_⟩
                        first | exact unhide B6 | exact below_set (below_set (below_set (below_set (unhide B6) (Nat.le_refl _)) (Nat.le_refl _)) (Nat.le_refl _)) (Nat.le_refl _)
                      · have z0 : (Z.toList == [48]) = false := neq_list hz
                        have zz : (⟨#[45]⟩ ++ Z : ByteArray).size ≤ 1001 := by rw [ByteArray.size_append]; show 1 + _ ≤ _; omega
                        have lz : (⟨#[45]⟩ ++ Z : ByteArray).data.toList = outD X.data.toList := by rw [unhide hD, ← unhide eZ]; simp [hz]
                        have q5 := hide (fun w => l1Whole_any (⟨#[45]⟩ ++ Z) w (by omega))
                        rw [lz] at q5
                        go_wp2_with fail
                        refine (unhide q5 _).mono ?_
                        rintro e w6 ⟨⟨N6, b6, rfl, hw6⟩, hb6⟩
                        have ga6 := hide (unhide ga N6 b6 hw6)
                        have hN0 := hw6.h0
                        have hN1 := hw6.h1
                        have R6 := (unhide R).keep hb6
                        have B6 := hide (bTr (unhide B5) hb6)
                        have j0 : w6.cell? ⟨w.heap.size, 0, none⟩ = some (.int .i64 0) := (R6).get rfl
                        have j1 : w6.cell? ⟨w.heap.size, 1, none⟩ = some (.int .i64 0) := (R6).get rfl
                        have j2 : w6.cell? ⟨w.heap.size, 2, none⟩ = some (.string ⟨#[]⟩) := (R6).get rfl
                        have j3 : w6.cell? ⟨w.heap.size, 3, none⟩ = some (.string ⟨#[]⟩) := (R6).get rfl
                        have f0 := (R6).frz 0
                        have f1 := (R6).frz 1
                        have f2 := (R6).frz 2
                        have f3 := (R6).frz 3
                        clear hb6 R6 hw6 q5
                        go_wp2_with fail
                        refine bodyPost_ret (v := .agg #[.int .i64 5, .int .i64 N6, .string ⟨#[]⟩, .string ⟨#[]⟩]) (by simp [results, Tryz.results78, go_sem, j0, j1, j2, j3]) rfl ⟨⟨_, _, _, _, rfl, unhide ga6⟩, ?_⟩
                        first | exact unhide B6 | exact below_set (below_set (below_set (below_set (unhide B6) (Nat.le_refl _)) (Nat.le_refl _)) (Nat.le_refl _)) (Nat.le_refl _)
                · obtain ⟨Y, hY⟩ : ∃ Y, Y = X := ⟨_, rfl⟩
                  have hD := hide (show outD X.data.toList = strip Y.data.toList by
                    rw [hY, hcX]
                    unfold outD magD negD
                    simp [p45])
                  have zY : Y.size ≤ 1000 := by rw [hY]; exact zX
                  rw [decide_eq_false p45] at e45
                  clear hcX p45
                  go_wp2_with fail
                  go_loopw [16] (fun v w' => ∃ Z : ByteArray, v = .string Z ∧ Z.size ≤ 1000 ∧ w' = w5 ∧ Hid (strip Z.data.toList = strip Y.data.toList)) (fun v _ => (match v with | .string Z => Z.size | _ => 0))
                  case atStart => exact ⟨Y, by first | rfl | rw [hY], by omega, rfl, hide rfl⟩
                  case round =>
                    obtain ⟨Z, rfl, hZ, rfl, hst⟩ := hrel
                    have lZ := sz_list Z
                    by_cases hz1 : 1 < Z.size
                    · obtain ⟨d0, hd0⟩ : ∃ d0, Z[0] = d0 := ⟨_, rfl⟩
                      have e48 : ((d0.toNat : Int) == 48) = decide (d0 = 48) := u8_is (n := 48) (by decide)
                      have hcons := list_cons (s := Z) (by omega)
                      rw [hd0] at hcons
                      by_cases p48 : d0 = 48
                      · have st := hide (show strip (Z.extract 1 Z.size).data.toList = strip Y.data.toList by
                          rw [ext_one, ← unhide hst]
                          rw [hcons] at lZ ⊢
                          cases hd : Z.data.toList.drop 1 with
                          | nil => rw [hd] at lZ; simp at lZ; omega
                          | cons a b => rw [p48]; exact strip_step rfl)
                        have se : (Z.extract 1 Z.size).size = Z.size - 1 := by rw [ByteArray.size_extract]; omega
                        rw [decide_eq_true p48] at e48
                        clear hcons p48 hst
                        go_wp2_with fail
                        exact ⟨⟨_, rfl, by omega, trivial, st⟩, by show (Z.extract 1 Z.size).size < Z.size; omega⟩
                      · have eZ := hide (show Z.data.toList = strip Y.data.toList by rw [← unhide hst]; exact (strip_done (.inr ⟨_, _, hcons, p48⟩)).symm)
                        rw [decide_eq_false p48] at e48
                        clear hcons p48 hst
                        have q5 := hide (fun w => l1Whole_any Z w (by omega))
                        rw [show Z.data.toList = outD X.data.toList by rw [unhide eZ, unhide hD]] at q5
                        go_wp2_with fail
                        refine (unhide q5 _).mono ?_
                        rintro e w6 ⟨⟨N6, b6, rfl, hw6⟩, hb6⟩
                        have ga6 := hide (unhide ga N6 b6 hw6)
                        have hN0 := hw6.h0
                        have hN1 := hw6.h1
                        have R6 := (unhide R).keep hb6
                        have B6 := hide (bTr (unhide B5) hb6)
                        have j0 : w6.cell? ⟨w.heap.size, 0, none⟩ = some (.int .i64 0) := (R6).get rfl
                        have j1 : w6.cell? ⟨w.heap.size, 1, none⟩ = some (.int .i64 0) := (R6).get rfl
                        have j2 : w6.cell? ⟨w.heap.size, 2, none⟩ = some (.string ⟨#[]⟩) := (R6).get rfl
                        have j3 : w6.cell? ⟨w.heap.size, 3, none⟩ = some (.string ⟨#[]⟩) := (R6).get rfl
                        have f0 := (R6).frz 0
                        have f1 := (R6).frz 1
                        have f2 := (R6).frz 2
                        have f3 := (R6).frz 3
                        clear hb6 R6 hw6 q5
                        go_wp2_with fail
                        refine bodyPost_ret (v := .agg #[.int .i64 5, .int .i64 N6, .string ⟨#[]⟩, .string ⟨#[]⟩]) (by simp [results, Tryz.results78, go_sem, j0, j1, j2, j3]) rfl ⟨⟨_, _, _, _, rfl, unhide ga6⟩, ?_⟩
                        first | exact unhide B6 | exact below_set (below_set (below_set (below_set (unhide B6) (Nat.le_refl _)) (Nat.le_refl _)) (Nat.le_refl _)) (Nat.le_refl _)
                    · have eZ := hide (show Z.data.toList = strip Y.data.toList by rw [← unhide hst]; exact (strip_done (.inl (by omega))).symm)
                      clear hst
                      have q5 := hide (fun w => l1Whole_any Z w (by omega))
                      rw [show Z.data.toList = outD X.data.toList by rw [unhide eZ, unhide hD]] at q5
                      go_wp2_with fail
                      refine (unhide q5 _).mono ?_
                      rintro e w6 ⟨⟨N6, b6, rfl, hw6⟩, hb6⟩
                      have ga6 := hide (unhide ga N6 b6 hw6)
                      have hN0 := hw6.h0
                      have hN1 := hw6.h1
                      have R6 := (unhide R).keep hb6
                      have B6 := hide (bTr (unhide B5) hb6)
                      have j0 : w6.cell? ⟨w.heap.size, 0, none⟩ = some (.int .i64 0) := (R6).get rfl
                      have j1 : w6.cell? ⟨w.heap.size, 1, none⟩ = some (.int .i64 0) := (R6).get rfl
                      have j2 : w6.cell? ⟨w.heap.size, 2, none⟩ = some (.string ⟨#[]⟩) := (R6).get rfl
                      have j3 : w6.cell? ⟨w.heap.size, 3, none⟩ = some (.string ⟨#[]⟩) := (R6).get rfl
                      have f0 := (R6).frz 0
                      have f1 := (R6).frz 1
                      have f2 := (R6).frz 2
                      have f3 := (R6).frz 3
                      clear hb6 R6 hw6 q5
                      go_wp2_with fail
                      refine bodyPost_ret (v := .agg #[.int .i64 5, .int .i64 N6, .string ⟨#[]⟩, .string ⟨#[]⟩]) (by simp [results, Tryz.results78, go_sem, j0, j1, j2, j3]) rfl ⟨⟨_, _, _, _, rfl, unhide ga6⟩, ?_⟩
                      first | exact unhide B6 | exact below_set (below_set (below_set (below_set (unhide B6) (Nat.le_refl _)) (Nat.le_refl _)) (Nat.le_refl _)) (Nat.le_refl _)
            by_cases h5 : P.length = 5
            · have zg : g < wr.heap.size := World.block_lt_of_cell? wr _ (unhide cel 0 (by omega))
              have HSP := hide hsp
              have HB := hide (fun (h : ∀ f b : Int, 0 ≤ f → f < 4294967296 → 0 ≤ b → b ≤ 32 → ¬ P = (four f).map Lib.itoa ++ [Lib.itoa b]) => unhide nga (by rw [← hsp]; exact h2) (fun f b f0 f1 b0 b1 e => h f b f0 f1 b0 b1 (by rw [hsp, e, sp_blk])))
              have hc4 : 4 ≤ cap := by omega
              have h5' := hide h5
              rw [h5]
              clear hsp nga h2
              obtain ⟨W5, hW5⟩ : ∃ W5, W5 = wr := ⟨_, rfl⟩
              subst hW5
              clear h5
              go_wp2_with fail
              go_loopw [20, 183] (fun v i w' => ∃ (k : Nat) (F : Int), k ≤ 4 ∧ i = .int .i64 k ∧ v = .int .i64 F ∧ (0 ≤ F ∧ F < 4294967296) ∧ Hid (AI P k F) ∧ Hid (Below W5.heap.size W5 w')) (fun _ i _ => 4 - (intOf i).toNat)
              case atStart => exact ⟨0, 0, by omega, rfl, rfl, by omega, hide (AI.zero P), hide (Below.refl _ _)⟩
              case round =>
                obtain ⟨k, F, hk, rfl, rfl, hF, hai, hb⟩ := hrel
                have h5 := unhide h5'
                by_cases hlt : k < 4
                · obtain ⟨p, hp⟩ : ∃ p, P[k]'(by omega) = p := ⟨_, rfl⟩
                  have ck : wr.cell? ⟨g, k, none⟩ = some (.string ⟨p.toArray⟩) := by rw [← hp]; exact cellB (unhide hb) zg (unhide cel k (by omega))
                  have zp : p.length ≤ s.size := by rw [← hp]; exact unhide hsz _ (List.getElem_mem _)
                  have q5 := hide (fun w => l1Whole_any ⟨p.toArray⟩ w (by rw [sz_arr]; omega))
                  have st := hide (fun (n : Int) (a : 0 ≤ n) (b : n ≤ 255) (e : p = Lib.itoa n) => (unhide hai).step (by omega) a b (by rw [hp, e]))
                  have bad := hide (fun (N : Int) (b : Bool) (hw : WholeIs p N b) (h : ¬ (b = true ∧ 0 ≤ N ∧ N ≤ 255)) => unhide HB (fun f b f0 f1 b0 b1 e => by
                    obtain ⟨n, n0, n1, en⟩ := blk_at f0 f1 e k hlt (by omega)
                    rw [hp] at en
                    obtain ⟨x1, x2⟩ := hw.all n (by omega) (by omega) en
                    exact h ⟨x2, by omega, by omega⟩))
                  have i1 : (k : Int) < 4 := by omega
                  clear hp hai h5
                  go_wp2_with fail
                  refine (unhide q5 _).mono ?_
                  rintro e w6 ⟨⟨N6, b6, rfl, hw6⟩, hb6⟩
                  have hN0 := hw6.h0
                  have hN1 := hw6.h1
                  have R6 := (unhide R).keep (bTr (unhide hb) hb6)
                  have B6 := hide (bTr (unhide B2) (bTr (unhide hb) hb6))
                  have b6' := hide (bTr (unhide hb) hb6)
                  have j0 : w6.cell? ⟨w.heap.size, 0, none⟩ = some (.int .i64 0) := (R6).get rfl
                  have j1 : w6.cell? ⟨w.heap.size, 1, none⟩ = some (.int .i64 0) := (R6).get rfl
                  have j2 : w6.cell? ⟨w.heap.size, 2, none⟩ = some (.string ⟨#[]⟩) := (R6).get rfl
                  have j3 : w6.cell? ⟨w.heap.size, 3, none⟩ = some (.string ⟨#[]⟩) := (R6).get rfl
                  have f0 := (R6).frz 0
                  have f1 := (R6).frz 1
                  have f2 := (R6).frz 2
                  have f3 := (R6).frz 3
                  clear hb6 R6 q5 hb ck
                  cases b6 with
                  | false =>
                    have ga6 := unhide bad N6 false hw6 (fun h => by cases h.1)
                    have GA6 := hide ga6
                    clear hw6 bad st ga6
                    go_wp2_with fail
                    refine bodyPost_ret (v := .agg #[.int .i64 0, .int .i64 0, .string ⟨#[]⟩, .string ⟨#[]⟩]) (by simp [results, Tryz.results78, go_sem, j0, j1, j2, j3]) rfl ⟨⟨_, _, _, _, rfl, unhide GA6⟩, ?_⟩
                    first | exact unhide B6 | exact below_set (below_set (below_set (below_set (unhide B6) (Nat.le_refl _)) (Nat.le_refl _)) (Nat.le_refl _)) (Nat.le_refl _)
                  | true =>
                    by_cases hneg : N6 < 0
                    · have GA6 := hide (unhide bad N6 true hw6 (fun h => by omega))
                      clear hw6 bad st
                      go_wp2_with fail
                      refine bodyPost_ret (v := .agg #[.int .i64 0, .int .i64 0, .string ⟨#[]⟩, .string ⟨#[]⟩]) (by simp [results, Tryz.results78, go_sem, j0, j1, j2, j3]) rfl ⟨⟨_, _, _, _, rfl, unhide GA6⟩, ?_⟩
                      first | exact unhide B6 | exact below_set (below_set (below_set (below_set (unhide B6) (Nat.le_refl _)) (Nat.le_refl _)) (Nat.le_refl _)) (Nat.le_refl _)
                    by_cases hbig : 255 < N6
                    · have GA6 := hide (unhide bad N6 true hw6 (fun h => by omega))
                      clear hw6 bad st
                      go_wp2_with fail
                      refine bodyPost_ret (v := .agg #[.int .i64 0, .int .i64 0, .string ⟨#[]⟩, .string ⟨#[]⟩]) (by simp [results, Tryz.results78, go_sem, j0, j1, j2, j3]) rfl ⟨⟨_, _, _, _, rfl, unhide GA6⟩, ?_⟩
                      first | exact unhide B6 | exact below_set (below_set (below_set (below_set (unhide B6) (Nat.le_refl _)) (Nat.le_refl _)) (Nat.le_refl _)) (Nat.le_refl _)
                    have st6 := hide (unhide st N6 (by omega) (by omega) (hw6.yes rfl))
                    have hF6 := (unhide st6).lt (by omega)
                    have v1 : IntKind.i64.wrap (F * 256) = F * 256 := by rw [IntKind.wrap_i64]; omega
                    have v2 : IntKind.i64.wrap (F * 256 + N6) = F * 256 + N6 := by rw [IntKind.wrap_i64]; omega
                    clear hw6 bad st
                    go_wp2_with fail
                    exact ⟨⟨k + 1, F * 256 + N6, by omega, by simp, by simp, hF6, st6, b6'⟩, by simp [intOf]; omega⟩
                · obtain rfl : k = 4 := by omega
                  obtain ⟨p, hp⟩ : ∃ p, P[4]'(by omega) = p := ⟨_, rfl⟩
                  have ck : wr.cell? ⟨g, 4, none⟩ = some (.string ⟨p.toArray⟩) := by rw [← hp]; exact cellB (unhide hb) zg (unhide cel 4 (by omega))
                  have zp : p.length ≤ s.size := by rw [← hp]; exact unhide hsz _ (List.getElem_mem _)
                  have q5 := hide (fun w => l1Whole_any ⟨p.toArray⟩ w (by rw [sz_arr]; omega))
                  have bad := hide (fun (N : Int) (b : Bool) (hw : WholeIs p N b) (h : ¬ (b = true ∧ 0 ≤ N ∧ N ≤ 32)) => unhide HB (fun f b f0 f1 b0 b1 e => by
                    have en := blk_last e (by omega)
                    rw [hp] at en
                    obtain ⟨x1, x2⟩ := hw.all b (by omega) (by omega) en
                    exact h ⟨x2, by omega, by omega⟩))
                  have god := hide (fun (N : Int) (hw : WholeIs p N true) (n0 : 0 ≤ N) (n1 : N ≤ 32) => show GA (c :: r) 6 (F * 64 + N) eB eB from ga_sp (by omega) (by omega) (unhide ntf) h34 h64 (unhide nor) (unhide HNo)
                    (fun A B n l _ hA hB => by have e := unhide HSP; rw [l, sp_dec hA hB] at e; rw [e] at h5; simp at h5)
                    (fun f b f0 f1 b0 b1 l => by
                      have e := unhide HSP
                      rw [l, sp_blk] at e
                      have en := blk_last e (by omega)
                      rw [hp] at en
                      obtain ⟨x1, _⟩ := hw.all b (by omega) (by omega) en
                      have ef := (unhide hai).whole f0 f1 e
                      exact ⟨rfl, by rw [x1, ef]⟩))
                  have zg6 : g < wr.heap.size := Nat.lt_of_lt_of_le zg (unhide hb).size
                  clear hp hai h5
                  go_wp2_with fail
                  refine (unhide q5 _).mono ?_
                  rintro e w6 ⟨⟨N6, b6, rfl, hw6⟩, hb6⟩
                  have hN0 := hw6.h0
                  have hN1 := hw6.h1
                  have R6 := (unhide R).keep (bTr (unhide hb) hb6)
                  have B6 := hide (bTr (unhide B2) (bTr (unhide hb) hb6))
                  have j0 : w6.cell? ⟨w.heap.size, 0, none⟩ = some (.int .i64 0) := (R6).get rfl
                  have j1 : w6.cell? ⟨w.heap.size, 1, none⟩ = some (.int .i64 0) := (R6).get rfl
                  have j2 : w6.cell? ⟨w.heap.size, 2, none⟩ = some (.string ⟨#[]⟩) := (R6).get rfl
                  have j3 : w6.cell? ⟨w.heap.size, 3, none⟩ = some (.string ⟨#[]⟩) := (R6).get rfl
                  have f0 := (R6).frz 0
                  have f1 := (R6).frz 1
                  have f2 := (R6).frz 2
                  have f3 := (R6).frz 3
                  clear hb6 R6 q5 hb ck
                  cases b6 with
                  | false =>
                    have GA6 := hide (unhide bad N6 false hw6 (fun h => by cases h.1))
                    clear hw6 bad god
                    go_wp2_with fail
                    refine bodyPost_ret (v := .agg #[.int .i64 0, .int .i64 0, .string ⟨#[]⟩, .string ⟨#[]⟩]) (by simp [results, Tryz.results78, go_sem, j0, j1, j2, j3]) rfl ⟨⟨_, _, _, _, rfl, unhide GA6⟩, ?_⟩
                    first | exact unhide B6 | exact below_set (below_set (below_set (below_set (unhide B6) (Nat.le_refl _)) (Nat.le_refl _)) (Nat.le_refl _)) (Nat.le_refl _)
                  | true =>
                    by_cases hneg : N6 < 0
                    · have GA6 := hide (unhide bad N6 true hw6 (fun h => by omega))
                      clear hw6 bad god
                      go_wp2_with fail
                      refine bodyPost_ret (v := .agg #[.int .i64 0, .int .i64 0, .string ⟨#[]⟩, .string ⟨#[]⟩]) (by simp [results, Tryz.results78, go_sem, j0, j1, j2, j3]) rfl ⟨⟨_, _, _, _, rfl, unhide GA6⟩, ?_⟩
                      first | exact unhide B6 | exact below_set (below_set (below_set (below_set (unhide B6) (Nat.le_refl _)) (Nat.le_refl _)) (Nat.le_refl _)) (Nat.le_refl _)
                    by_cases hbig : 32 < N6
                    · have GA6 := hide (unhide bad N6 true hw6 (fun h => by omega))
                      clear hw6 bad god
                      go_wp2_with fail
                      refine bodyPost_ret (v := .agg #[.int .i64 0, .int .i64 0, .string ⟨#[]⟩, .string ⟨#[]⟩]) (by simp [results, Tryz.results78, go_sem, j0, j1, j2, j3]) rfl ⟨⟨_, _, _, _, rfl, unhide GA6⟩, ?_⟩
                      first | exact unhide B6 | exact below_set (below_set (below_set (below_set (unhide B6) (Nat.le_refl _)) (Nat.le_refl _)) (Nat.le_refl _)) (Nat.le_refl _)
                    have GA6 := hide (unhide god N6 hw6 (by omega) (by omega))
                    clear hw6 bad god
                    go_wp2_with fail
                    refine bodyPost_ret (v := .agg #[.int .i64 6, .int .i64 (F * 64 + N6), .string ⟨#[]⟩, .string ⟨#[]⟩]) (by simp [results, Tryz.results78, go_sem, j0, j1, j2, j3]) rfl ⟨⟨_, _, _, _, rfl, unhide GA6⟩, ?_⟩
                    first | exact unhide B6 | exact below_set (below_set (below_set (below_set (unhide B6) (Nat.le_refl _)) (Nat.le_refl _)) (Nat.le_refl _)) (Nat.le_refl _)
            · have ga := hide (unhide nga (by rw [← hsp]; exact h2) (fun f b f0 f1 b0 b1 e => h5 (by rw [hsp, e, sp_blk]; unfold four; rfl)))
              have j0 : wr.cell? ⟨w.heap.size, 0, none⟩ = some (.int .i64 0) := ((unhide R)).get rfl
              have j1 : wr.cell? ⟨w.heap.size, 1, none⟩ = some (.int .i64 0) := ((unhide R)).get rfl
              have j2 : wr.cell? ⟨w.heap.size, 2, none⟩ = some (.string ⟨#[]⟩) := ((unhide R)).get rfl
              have j3 : wr.cell? ⟨w.heap.size, 3, none⟩ = some (.string ⟨#[]⟩) := ((unhide R)).get rfl
              have f0 := ((unhide R)).frz 0
              have f1 := ((unhide R)).frz 1
              have f2 := ((unhide R)).frz 2
              have f3 := ((unhide R)).frz 3
              clear nga hsp
              have i5 : ((P.length : Int) == 5) = false := by rw [beq_eq_false_iff_ne]; omega
              have i2 : ((P.length : Int) == 2) = false := by rw [beq_eq_false_iff_ne]; omega
              go_wp2_with fail
              refine bodyPost_ret (v := .agg #[.int .i64 0, .int .i64 0, .string ⟨#[]⟩, .string ⟨#[]⟩]) (by simp [results, Tryz.results78, go_sem, j0, j1, j2, j3]) rfl ⟨⟨_, _, _, _, rfl, unhide ga⟩, ?_⟩
              first | exact unhide B2 | exact below_set (below_set (below_set (below_set (unhide B2) (Nat.le_refl _)) (Nat.le_refl _)) (Nat.le_refl _)) (Nat.le_refl _)
end Go.Proofs.YticidjceljjfnaaGreatDoor
