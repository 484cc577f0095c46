/- BPur, BIt, BGi, BSet, BRec, BFit, BGv, BRv, one behind the other. -/
import Derived.Test.YtijfgfdagfchiaaGreatDoorWTxt
import Derived.Test.YtijfgfdagfchiaaGreatDoorARs
import Derived.Test.YtijfgfdagfchiaaGreatDoorWVM
/- Parts of a value's text between commas: pure. -/
namespace Go.Proofs.YtijfgfdagfchiaaGreatDoor.V
open Go.RowKit

/-- How far the first item goes: to a comma out of quotes. -/
def cutAt : Bool → List UInt8 → Nat
  | _, [] => 0
  | q, [c] => if c = 92 ∧ q = true then 1 else if c = 34 then 1 else if c = 44 ∧ q = false then 0 else 1
  | q, c :: d :: t => if c = 92 ∧ q = true then 2 + cutAt true t else if c = 34 then 1 + cutAt (!q) (d :: t) else if c = 44 ∧ q = false then 0 else 1 + cutAt q (d :: t)
theorem cut_nil (q : Bool) : cutAt q [] = 0 := by cases q <;> rfl
theorem cut_esc (d : UInt8) (t : List UInt8) : cutAt true (92 :: d :: t) = 2 + cutAt true t := by simp [cutAt]
theorem cut_quo (q : Bool) (t : List UInt8) : cutAt q (34 :: t) = 1 + cutAt (!q) t := by
  cases t with
  | nil => cases q <;> rfl
  | cons d t => simp [cutAt]
theorem cut_com (t : List UInt8) : cutAt false (44 :: t) = 0 := by
  cases t with
  | nil => rfl
  | cons d t => simp [cutAt]
theorem cut_else {q : Bool} {c : UInt8} (t : List UInt8) (h1 : ¬ (c = 92 ∧ q = true)) (h2 : ¬ c = 34) (h3 : ¬ (c = 44 ∧ q = false)) : cutAt q (c :: t) = 1 + cutAt q t := by
  cases t with
  | nil => simp only [cutAt]; rw [if_neg h1, if_neg h2, if_neg h3]
  | cons d t => simp only [cutAt]; rw [if_neg h1, if_neg h2, if_neg h3]
theorem cut_le : ∀ (l : List UInt8) (q : Bool), cutAt q l ≤ l.length
  | [], q => by rw [cut_nil]; exact Nat.le_refl _
  | [c], q => by unfold cutAt; split <;> (try split) <;> (try split) <;> simp
  | c :: d :: t, q => by
    have h1 := cut_le t true
    have h2 := cut_le (d :: t) (!q)
    have h3 := cut_le (d :: t) q
    simp only [List.length_cons] at h2 h3 ⊢
    unfold cutAt
    split
    · omega
    split
    · omega
    split
    · omega
    · omega

/-- What is gone through to its end, out of quotes. -/
def Pass (p : List UInt8) : Prop := ∀ r, cutAt false (p ++ r) = p.length + cutAt false r
theorem Pass.app {p q : List UInt8} (hp : Pass p) (hq : Pass q) : Pass (p ++ q) := fun r => by
  rw [List.append_assoc, hp, hq, List.length_append]; omega
theorem pass_plain : ∀ p : List UInt8, (∀ c ∈ p, ¬ c = 34 ∧ ¬ c = 44) → Pass p
  | [], _ => fun r => by simp
  | c :: p, h => fun r => by
    have ih := pass_plain p (fun x hx => h x (List.mem_cons_of_mem _ hx)) r
    have hc := h c (by simp)
    rw [List.cons_append, cut_else _ (by simp) hc.1 (fun e => hc.2 e.1), ih, List.length_cons]; omega
theorem cut_qs : ∀ (t r : List UInt8), cutAt true (qs t ++ 34 :: r) = (qs t).length + 1 + cutAt false r
  | [], r => by
    show cutAt true (34 :: r) = _
    rw [cut_quo]; simp [qs]
  | c :: t, r => by
    have ih := cut_qs t r
    have e : qs (c :: t) = qb c ++ qs t := by simp [qs]
    rw [e, List.append_assoc, List.length_append]
    unfold qb
    split
    · show cutAt true (92 :: c :: (qs t ++ 34 :: r)) = _
      rw [cut_esc, ih]
      show _ = 2 + _ + _ + _
      omega
    · rename_i hc
      show cutAt true (c :: (qs t ++ 34 :: r)) = _
      rw [cut_else _ (fun e => hc (.inr e.1)) (fun e => hc (.inl e)) (by simp), ih]
      show _ = 1 + _ + _ + _
      omega
theorem pass_quo (t : List UInt8) : Pass (quo t) := fun r => by
  unfold quo
  rw [List.cons_append, List.append_assoc, cut_quo]
  show 1 + cutAt true (qs t ++ 34 :: r) = _
  rw [cut_qs]
  simp only [List.length_cons, List.length_append, List.length_nil]
  omega
theorem nc_plain {c : UInt8} (h : NC c) : ¬ c = 34 ∧ ¬ c = 44 := by
  rcases h with rfl | h
  · exact ⟨by decide, by decide⟩
  · unfold Dig at h
    exact ⟨fun e => by rw [e] at h; exact absurd h (by decide), fun e => by rw [e] at h; exact absurd h (by decide)⟩
theorem okc_plain {c : UInt8} (h : okcB c = true) : ¬ c = 34 ∧ ¬ c = 44 ∧ ¬ c = 58 := by
  refine ⟨fun e => ?_, fun e => ?_, fun e => ?_⟩ <;> (rw [e] at h; exact absurd h (by decide))
theorem pass_name {y : ByteArray} (h : goodName y = true) : Pass y.data.toList := pass_plain _ (fun c hc => ⟨(okc_plain ((name_parts h).2 c hc)).1, (okc_plain ((name_parts h).2 c hc)).2.1⟩)
theorem pass_itoa (n : Int) : Pass (Lib.itoa n) := pass_plain _ (fun c hc => nc_plain (itoa_nc n c hc))
theorem pass_one {c : UInt8} (h1 : ¬ c = 34) (h2 : ¬ c = 44) : Pass [c] := pass_plain _ (fun x hx => by rw [List.mem_singleton] at hx; subst hx; exact ⟨h1, h2⟩)
/-- A good atom's text is gone through. -/
theorem pass_atom {k n : Int} {t y : ByteArray} (hg : goodAtom k n t y = true) (h0 : -9223372036854775808 ≤ n) (h1 : n ≤ 9223372036854775807) : Pass (atomL k n t y) := by
  have hs := shape hg
  generalize atomL k n t y = l at hs
  cases hs with
  | tru _ _ _ _ l => rw [l]; exact pass_plain _ (by decide)
  | fal _ _ _ _ l => rw [l]; exact pass_plain _ (by decide)
  | num _ _ _ l => rw [l]; exact pass_itoa n
  | txt _ _ _ l => rw [l]; exact pass_quo _
  | ref _ _ hy l =>
    have e : y.data.toList ++ 58 :: 58 :: quo t.data.toList = (y.data.toList ++ [58, 58]) ++ quo t.data.toList := by simp
    rw [l, e]
    exact ((pass_name hy).app (pass_plain _ (by decide))).app (pass_quo _)
  | dec _ _ _ l =>
    obtain ⟨A, B, e, hA, hB, _⟩ := dec_parts n h0 h1
    have e2 : A ++ 46 :: B = (A ++ [46]) ++ B := by simp
    rw [l, e, e2]
    exact ((pass_plain _ (fun c hc => nc_plain (hA c hc))).app (pass_one (by decide) (by decide))).app (pass_plain _ (fun c hc => nc_plain (dig_nc (hB c hc))))
  | adr _ _ _ b1 b2 b3 b4 l =>
    obtain ⟨A, e, hA, _⟩ := blk_parts (n / 64) (n % 64)
    have e2 : A ++ 47 :: Lib.itoa (n % 64) = (A ++ [47]) ++ Lib.itoa (n % 64) := by simp
    rw [l, e, e2]
    refine ((pass_plain _ (fun c hc => ?_)).app (pass_one (by decide) (by decide))).app (pass_itoa _)
    rcases hA c hc with h | h
    · exact nc_plain h
    · subst h; exact ⟨by decide, by decide⟩
  | tim _ _ _ l =>
    have e : (64 :: Lib.itoa n : List UInt8) = [64] ++ Lib.itoa n := rfl
    rw [l, e]
    exact (pass_one (by decide) (by decide)).app (pass_itoa n)

/-- Pieces that a text is made of, with commas between. -/
structure Fits (s : List UInt8) (L : List (List UInt8)) : Prop where
  len : 1 ≤ L.length ∧ L.length ≤ 50
  each : ∀ p ∈ L, Pass p ∧ p ≠ []
  is : Lib.join L [44] = s
theorem join_one (p : List UInt8) (s : List UInt8) : Lib.join [p] s = p := by simp [Lib.join, List.intercalate]
theorem join_two (p q : List UInt8) (L : List (List UInt8)) (s : List UInt8) : Lib.join (p :: q :: L) s = p ++ (s ++ Lib.join (q :: L) s) := by simp [Lib.join, List.intercalate]
/-- The first piece, and the rest. -/
theorem cut_first {p : List UInt8} (hp : Pass p) (L : List (List UInt8)) : cutAt false (Lib.join (p :: L) [44]) = p.length := by
  cases L with
  | nil =>
    rw [join_one]
    have := hp []
    rw [List.append_nil, cut_nil] at this
    exact this
  | cons q L =>
    rw [join_two, hp]
    show _ + cutAt false (44 :: _) = _
    rw [cut_com]; omega
theorem join_take (p : List UInt8) (L : List (List UInt8)) : (Lib.join (p :: L) [44]).take p.length = p := by
  cases L with
  | nil => rw [join_one]; simp
  | cons q L => rw [join_two]; simp
theorem join_drop (p : List UInt8) (L : List (List UInt8)) : (Lib.join (p :: L) [44]).drop (p.length + 1) = Lib.join L [44] := by
  cases L with
  | nil => rw [join_one]; simp [Lib.join, List.intercalate]
  | cons q L =>
    rw [join_two, List.drop_append, List.drop_eq_nil_of_le (by omega)]
    simp
theorem join_nil {L : List (List UInt8)} (h : ∀ p ∈ L, p ≠ []) (e : Lib.join L [44] = []) : L = [] := by
  cases L with
  | nil => rfl
  | cons p L =>
    exfalso
    have hp := h p (by simp)
    cases L with
    | nil => rw [join_one] at e; exact hp e
    | cons q L =>
      rw [join_two] at e
      have := congrArg List.length e
      simp at this
theorem join_len1 (p : List UInt8) (L : List (List UInt8)) : p.length ≤ (Lib.join (p :: L) [44]).length := by
  cases L with
  | nil => rw [join_one]; exact Nat.le_refl _
  | cons q L => rw [join_two]; simp
end Go.Proofs.YtijfgfdagfchiaaGreatDoor.V
/- impl.itemLength. -/
namespace Go.Proofs.YtijfgfdagfchiaaGreatDoor.V
open Go.RowKit
set_option maxRecDepth 20000

theorem drop_at {l : List UInt8} {k : Nat} (hk : k < l.length) : l.drop k = l[k] :: l.drop (k + 1) := List.drop_eq_getElem_cons hk
theorem sc_esc {l : List UInt8} {k : Nat} (hk : k < l.length) (h : l[k] = 92) : min k l.length + cutAt true (l.drop k) = min (k + 2) l.length + cutAt true (l.drop (k + 2)) := by
  rw [drop_at hk, h]
  by_cases h2 : k + 1 < l.length
  · rw [drop_at h2, cut_esc, show k + 1 + 1 = k + 2 from rfl]; omega
  · rw [List.drop_eq_nil_of_le (by omega : l.length ≤ k + 1), List.drop_eq_nil_of_le (by omega : l.length ≤ k + 2), cut_nil]
    show _ + 1 = _
    omega
theorem sc_quo {l : List UInt8} {k : Nat} (q : Bool) (hk : k < l.length) (h : l[k] = 34) : min k l.length + cutAt q (l.drop k) = min (k + 1) l.length + cutAt (!q) (l.drop (k + 1)) := by
  rw [drop_at hk, h, cut_quo]; omega
theorem sc_com {l : List UInt8} {k : Nat} (hk : k < l.length) (h : l[k] = 44) : min k l.length + cutAt false (l.drop k) = k := by
  rw [drop_at hk, h, cut_com]; omega
theorem sc_else {l : List UInt8} {k : Nat} {q : Bool} (hk : k < l.length) (h1 : ¬ (l[k] = 92 ∧ q = true)) (h2 : ¬ l[k] = 34) (h3 : ¬ (l[k] = 44 ∧ q = false)) : min k l.length + cutAt q (l.drop k) = min (k + 1) l.length + cutAt q (l.drop (k + 1)) := by
  rw [drop_at hk, cut_else _ h1 h2 h3]; omega
theorem sc_end {l : List UInt8} {k : Nat} {q : Bool} (hk : l.length ≤ k) : min k l.length + cutAt q (l.drop k) = l.length := by
  rw [List.drop_eq_nil_of_le hk, cut_nil]; omega

set_option maxHeartbeats 1000000 in
theorem itemLength_any (s : ByteArray) (w : World) (hs : s.size ≤ 1048576) :
    Calls Tryz.prog 105 #[.string s] w fun e w' => e = .returned (.int .i64 (cutAt false s.data.toList : Nat)) ∧ w = w' := by
  have zs : s.data.toList.length = s.size := by simp
  obtain ⟨C, hC⟩ : ∃ C, cutAt false s.data.toList = C := ⟨_, rfl⟩
  have st0 := hide (show min 0 s.data.toList.length + cutAt false (s.data.toList.drop 0) = C by rw [List.drop_zero, hC]; omega)
  rw [hC]
  clear hC
  go_enter Tryz.func105, Tryz.ntmps105
  go_wp2_with fail
  go_loopw [3, 4] (fun q i w' => ∃ (k : Nat) (b : Bool), k ≤ s.size + 1 ∧ q = .bool b ∧ i = .int .i64 k ∧ w' = w ∧ Hid (min k s.data.toList.length + cutAt b (s.data.toList.drop k) = C)) (fun _ i _ => s.size + 1 - (intOf i).toNat)
  case atStart => exact ⟨0, false, by omega, rfl, rfl, rfl, st0⟩
  case round =>
    obtain ⟨k, b, hk, rfl, rfl, rfl, st⟩ := hrel
    by_cases hlt : k < s.size
    · obtain ⟨c, hc⟩ : ∃ c, s[k] = c := ⟨_, rfl⟩
      have lc : s.data.toList[k]'(by omega) = c := by rw [← hc]; rfl
      have e92 : ((c.toNat : Int) == 92) = decide (c = 92) := u8_is (n := 92) (by decide)
      have e34 : ((c.toNat : Int) == 34) = decide (c = 34) := u8_is (n := 34) (by decide)
      have e44 : ((c.toNat : Int) == 44) = decide (c = 44) := u8_is (n := 44) (by decide)
      by_cases p92 : c = 92 ∧ b = true
      · obtain ⟨p, rfl⟩ := p92
        have s2 := hide ((sc_esc (by omega) (by rw [lc, p])).symm.trans (unhide st))
        rw [decide_eq_true p] at e92
        clear st lc p e34 e44
        go_wp2_with fail
        exact ⟨⟨k + 2, true, by omega, rfl, by go_num, trivial, s2⟩, by simp [intOf]; omega⟩
      by_cases p34 : c = 34
      · have s2 := hide ((sc_quo b (by omega) (by rw [lc, p34])).symm.trans (unhide st))
        rw [decide_eq_true p34] at e34
        rw [decide_eq_false (by rw [p34]; decide)] at e92
        clear st lc p34 e44 p92
        cases b
        all_goals
          go_wp2_with fail
          exact ⟨⟨k + 1, _, by omega, rfl, by simp, trivial, s2⟩, by simp [intOf]; omega⟩
      by_cases p44 : c = 44 ∧ b = false
      · obtain ⟨p, rfl⟩ := p44
        have ck : k = C := (sc_com (by omega) (by rw [lc, p])).symm.trans (unhide st)
        rw [decide_eq_true p] at e44
        rw [decide_eq_false p34] at e34
        clear st lc p34 p92 st0
        subst ck
        go_wp2_with fail
        go_ret
        first | exact ⟨rfl, rfl⟩ | exact ⟨rfl, trivial⟩ | exact ⟨by simp [ck], rfl⟩ | exact ⟨by simp [ck], trivial⟩
      · have s2 := hide ((sc_else (q := b) (by omega) (by rw [lc]; exact p92) (by rw [lc]; exact p34) (by rw [lc]; exact p44)).symm.trans (unhide st))
        rw [decide_eq_false p34] at e34
        clear st lc p34
        cases b
        · have p : ¬ c = 44 := fun h => p44 ⟨h, rfl⟩
          rw [decide_eq_false p] at e44
          clear p92 p44
          go_wp2_with fail
          exact ⟨⟨k + 1, _, by omega, rfl, by simp, trivial, s2⟩, by simp [intOf]; omega⟩
        · have p : ¬ c = 92 := fun h => p92 ⟨h, rfl⟩
          rw [decide_eq_false p] at e92
          clear p92 p44
          go_wp2_with fail
          exact ⟨⟨k + 1, _, by omega, rfl, by simp, trivial, s2⟩, by simp [intOf]; omega⟩
    · have ec : s.size = C := by rw [← zs]; exact (sc_end (q := b) (by omega)).symm.trans (unhide st)
      go_wp2_with fail
      go_ret
      first | exact ⟨rfl, rfl⟩ | exact ⟨rfl, trivial⟩
end Go.Proofs.YtijfgfdagfchiaaGreatDoor.V
/- impl.guessItems. -/
namespace Go.Proofs.YtijfgfdagfchiaaGreatDoor.V
open Go.RowKit
set_option maxRecDepth 20000

/-- What stands between the first byte and the last. -/
def midL (l : List UInt8) : List UInt8 := (l.drop 1).take (l.length - 2)
structure ItemsAre (l : List UInt8) (R : List (List UInt8)) : Prop where
  len : R.length ≤ 51
  each : ∀ p ∈ R, p.length ≤ l.length
  all : ∀ L, Fits (midL l) L → R = L
  nil : midL l = [] → R = []
/-- On the way. -/
structure ItemsTo (l : List UInt8) (R : List (List UInt8)) (X : List UInt8) : Prop where
  each : ∀ p ∈ R, p.length ≤ l.length
  all : ∀ L, Fits (midL l) L → R.length ≤ L.length ∧ R = L.take R.length ∧ X = Lib.join (L.drop R.length) [44]
  nil : midL l = [] → R = [] ∧ X = []
theorem ItemsTo.start (l : List UInt8) : ItemsTo l [] (midL l) := ⟨by simp, fun L h => ⟨by simp, by simp, by simpa using h.is.symm⟩, fun h => ⟨rfl, h⟩⟩
theorem ItemsTo.step {l : List UInt8} {R : List (List UInt8)} {X : List UInt8} (h : ItemsTo l R X) (hX : X ≠ []) (hl : X.length ≤ l.length) : ItemsTo l (R ++ [X.take (cutAt false X)]) (X.drop (cutAt false X + 1)) := by
  refine ⟨fun p hp => ?_, fun L hL => ?_, fun e => absurd (h.nil e).2 hX⟩
  · rw [List.mem_append, List.mem_singleton] at hp
    rcases hp with hp | hp
    · exact h.each p hp
    · rw [hp, List.length_take]; omega
  · obtain ⟨h1, h2, h3⟩ := h.all L hL
    have hlt : R.length < L.length := by
      apply Classical.byContradiction
      intro hn
      rw [List.drop_eq_nil_of_le (by omega)] at h3
      exact hX h3
    have e : L.drop R.length = L[R.length] :: L.drop (R.length + 1) := List.drop_eq_getElem_cons hlt
    have hp := (hL.each L[R.length] (List.getElem_mem _)).1
    rw [e] at h3
    have hc : cutAt false X = (L[R.length]).length := by rw [h3]; exact cut_first hp _
    refine ⟨by simp; omega, ?_, ?_⟩
    · rw [hc, h3, join_take, List.length_append, List.length_singleton, List.take_succ_eq_append_getElem hlt, ← h2]
    · rw [hc, List.length_append, List.length_singleton]
      conv => lhs; rw [h3]
      rw [join_drop]
theorem ItemsTo.done {l : List UInt8} {R : List (List UInt8)} {X : List UInt8} (h : ItemsTo l R X) (hl : R.length ≤ 51) (hX : X = [] ∨ 50 < R.length) : ItemsAre l R := by
  refine ⟨hl, h.each, fun L hL => ?_, fun e => (h.nil e).1⟩
  obtain ⟨h1, h2, h3⟩ := h.all L hL
  have := hL.len
  rcases hX with hX | hX
  · rw [hX] at h3
    have e := join_nil (fun p hp => (hL.each p (List.mem_of_mem_drop hp)).2) h3.symm
    have := congrArg List.length e
    rw [List.length_drop] at this
    rw [h2, List.take_of_length_le (by simp at this; omega)]
  · omega

theorem own_sl {w : World} {base e size n : Nat} {v : Value} {xs : List Value} (h : w.ownsRow base e size v n xs) : ∃ a cap, v = .slice a n cap := by
  rcases h.2 with ⟨rfl, rfl⟩ | ⟨g, cap, cur, rfl, _⟩
  · exact ⟨_, _, rfl⟩
  · exact ⟨_, _, rfl⟩

set_option maxHeartbeats 2000000 in
theorem guessItems_any (s : ByteArray) (w : World) (hs : s.size ≤ 1048576) (hz : 1 ≤ s.size) :
    Calls Tryz.prog 84 #[.string s] w fun e w' => (∃ v R, e = .returned v ∧ w'.ownsRow w.heap.size 9 1 v R.length (strsV R) ∧ Hid (ItemsAre s.data.toList R)) ∧ Below w.heap.size w w' := by
  have zs : s.data.toList.length = s.size := by simp
  obtain ⟨i0, hi, hz0, hz1, hz2⟩ := info_parts info_str
  obtain ⟨M, hM⟩ : ∃ M : Nat, M = max 1 (s.size - 1) := ⟨_, rfl⟩
  obtain ⟨X0, hX0⟩ : ∃ X0, s.extract 1 M = X0 := ⟨_, rfl⟩
  have l0 : X0.data.toList = midL s.data.toList := by
    rw [← hX0, mid_bytes]
    unfold midL
    show (s.data.toList.drop 1).take (M - 1) = _
    rw [zs]; congr 1; omega
  have z0 : X0.size ≤ s.size := by rw [← hX0, ByteArray.size_extract]; omega
  have it0 := hide (show ItemsTo s.data.toList [] X0.data.toList by rw [l0]; exact ItemsTo.start _)
  have m1 : (M : Int) = max 1 ((s.size : Int) - 1) := by omega
  have m2 : 1 ≤ M ∧ M ≤ s.size := by omega
  clear l0
  go_enter Tryz.func84, Tryz.ntmps84
  go_wp2_with fail
  go_loopw [3, 4] (fun v r w' => ∃ (R : List (List UInt8)) (X : ByteArray), r = .string X ∧ R.length ≤ 51 ∧ X.size ≤ s.size ∧ Hid (w'.ownsRow w.heap.size 9 1 v R.length (strsV R)) ∧ Hid (Below w.heap.size w w') ∧ Hid (ItemsTo s.data.toList R X.data.toList)) (fun _ r _ => (match r with | .string X => X.size | _ => 0))
  case atStart => exact ⟨[], X0, by rw [show (max 1 ((s.size : Int) - 1)).toNat = M by omega, hX0], by simp, z0, hide (World.ownsRow_nil _ _ _ _), hide (Below.refl _ _), it0⟩
  case round =>
    obtain ⟨R, X, rfl, hR, hX, hown, hb, hit⟩ := hrel
    obtain ⟨av, cv, ev⟩ := own_sl (unhide hown)
    subst ev
    have zX : X.data.toList.length = X.size := by simp
    clear it0 hX0 hM m1 m2 z0
    by_cases he : X.size = 0
    · have xe : X.toList.isEmpty = true := by
        rw [ByteArray.toList_eq, List.length_eq_zero_iff.1 (zX.trans he)]; rfl
      have fin := hide ((unhide hit).done hR (.inl (List.length_eq_zero_iff.1 (zX.trans he))))
      clear hit
      go_wp2_with fail
      go_ret
      exact ⟨⟨_, R, rfl, unhide hown, fin⟩, unhide hb⟩
    have xe : X.toList.isEmpty = false := by
      rw [ByteArray.toList_eq]
      cases h : X.data.toList with
      | nil => rw [h] at zX; simp at zX; omega
      | cons _ _ => rfl
    by_cases hl : 50 < R.length
    · have fin := hide ((unhide hit).done hR (.inr hl))
      have d50 : decide ((R.length : Int) ≤ 50) = false := by simp; omega
      clear hit
      go_wp2_with fail
      go_ret
      exact ⟨⟨_, R, rfl, unhide hown, fin⟩, unhide hb⟩
    have d50 : decide ((R.length : Int) ≤ 50) = true := by simp; omega
    have q1 := hide (fun w => itemLength_any X w (by omega))
    have hc := cut_le X.data.toList false
    have st := hide ((unhide hit).step (fun h => by rw [h] at zX; simp at zX; omega) (by omega))
    obtain ⟨C, hC⟩ : ∃ C, cutAt false X.data.toList = C := ⟨_, rfl⟩
    rw [hC] at q1 hc st
    have eC : X.extract 0 C = ⟨(X.data.toList.take C).toArray⟩ := by rw [mid_bytes]; simp
    obtain ⟨D, hD⟩ : ∃ D : Nat, D = min (C + 1) X.size := ⟨_, rfl⟩
    have eD : (X.extract D X.size).data.toList = X.data.toList.drop (C + 1) := by
      rw [mid_bytes]
      show (X.data.toList.drop D).take (X.size - D) = _
      rw [List.take_of_length_le (by rw [List.length_drop]; omega)]
      by_cases h : C + 1 ≤ X.size
      · rw [show D = C + 1 by omega]
      · rw [List.drop_eq_nil_of_le (by omega), List.drop_eq_nil_of_le (by omega)]
    have sD : (X.extract D X.size).size = X.size - D := by rw [ByteArray.size_extract]; omega
    rw [← eD] at st
    have mD : (D : Int) = min ((C : Int) + 1) (X.size : Int) := by omega
    have dD : D ≤ X.size := by omega
    have d1 : 1 ≤ D := by omega
    clear hC hit eD
    go_wp2_with fail
    refine (unhide q1 _).mono ?_
    rintro e w1 ⟨rfl, rfl⟩
    clear q1
    go_wp2_with (at_builtin; refine wpList_append_own_at _ rfl _ _ 29 rfl w.heap.size 9 i0 _ 1 16 Tryz.underlying29 hi hz0 hz1 hz2 rfl (by decide) _ _ _ rfl ((unhide hown).alloc _) ⟨_, 0, none⟩ 1 1 [.string _] rfl rfl (cell_one_new _ _ _) (fun x hx => by simp at hx; subst hx; rfl) (by unfold maxLen; omega) (by omega) (by have := (unhide hb).size; simp; omega) ?_; intro v3 w3 hown3 hgrow3 _ hat3)
    have tD : (min ((C : Int) + 1) (X.size : Int)).toNat = D := by omega
    rw [tD]
    refine ⟨⟨R ++ [X.data.toList.take C], _, rfl, by simp; omega, by omega, hide ?_, hide ((bAl (unhide hb) _).grown hgrow3 (by have := (unhide hb).size; simp; omega) (fun j hj => ((unhide hown).lt j hj).1)), st⟩, ?_⟩
    · simpa [strsV, eC] using hown3
    · show (X.extract D X.size).size < X.size
      omega
end Go.Proofs.YtijfgfdagfchiaaGreatDoor.V
/- impl.guessSet. -/
namespace Go.Proofs.YtijfgfdagfchiaaGreatDoor.V
open Go.RowKit
set_option maxRecDepth 20000

def cellsA (a : AtomT) : List Value := [.int .i64 a.x, .int .i64 a.n, .string a.t, .string a.y]
def atomsV (l : List AtomT) : List Value := l.flatMap cellsA
def zV (k : Int) (v1 v2 : Value) : Array Value := #[.int .i64 k, .int .i64 0, .int .i64 0, .string ⟨#[]⟩, .string ⟨#[]⟩, v1, v2]

theorem info_atom : (Tryz.prog.info? 23).map (fun i => (i.zero, i.size, i.bytes)) = some (some (.agg #[.int .i64 0, .int .i64 0, .string ByteArray.empty, .string ByteArray.empty]), 4, 48) := by kernel_rfl
theorem cell_four_new (w : World) (L : List Value) (t : TypeId) : ∀ j u, L[j]? = some u → (w.alloc (.cells L.toArray t)).cell? ((⟨w.heap.size, 0, none⟩ : Addr).add j) = some u := by
  intro j u h
  have e : (⟨w.heap.size, 0, none⟩ : Addr).add j = ⟨w.heap.size, j, none⟩ := by simp [Addr.add]; omega
  have := (RowIs.new w L.toArray t).cell j
  rw [e, this]
  simpa using h
theorem RowIs.grown {w w' : World} {b : Nat} {C : Array Value} {T : TypeId} {r : Option Nat} (h : RowIs w b C T) (hg : w.grownBy w' r) (hne : some b ≠ r) : RowIs w' b C T := by
  have hl := h.lt
  unfold RowIs at *; rw [hg.block b hl hne]; exact h
theorem own_set {w : World} {base e size n b o : Nat} {v u : Value} {xs : List Value} (h : w.ownsRow base e size v n xs) (hne : ∀ g, v.ownBlock = some g → g ≠ b) : (w.setCell ⟨b, o, none⟩ u).ownsRow base e size v n xs := by
  refine ⟨h.1, ?_⟩
  rcases h.2 with h2 | ⟨g, cap, cur, hv, h3, h4, h5⟩
  · exact .inl h2
  · exact .inr ⟨g, cap, cur, hv, h3, by rw [heap_setCell_other w ⟨b, o, none⟩ g u (hne g (by rw [hv]; rfl))]; exact h4, h5⟩
theorem atomsV_snoc (l : List AtomT) (a : AtomT) : atomsV (l ++ [a]) = atomsV l ++ cellsA a := by simp [atomsV]
theorem own_base {w : World} {base base' e size n : Nat} {v : Value} {xs : List Value} (h : w.ownsRow base e size v n xs) (hb : base' ≤ base) : w.ownsRow base' e size v n xs := by
  refine ⟨h.1, ?_⟩
  rcases h.2 with h2 | ⟨g, cap, cur, hv, h3, h4⟩
  · exact .inl h2
  · exact .inr ⟨g, cap, cur, hv, Nat.le_trans hb h3, h4⟩
theorem own_set7 {w : World} {base base' e size n b : Nat} {v u0 u1 u2 u3 u4 u5 u6 : Value} {xs : List Value} (h : w.ownsRow base e size v n xs) (hb : base' ≤ base) (hne : b < base) :
    (((((((w.setCell ⟨b, 0, none⟩ u0).setCell ⟨b, 1, none⟩ u1).setCell ⟨b, 2, none⟩ u2).setCell ⟨b, 3, none⟩ u3).setCell ⟨b, 4, none⟩ u4).setCell ⟨b, 5, none⟩ u5).setCell ⟨b, 6, none⟩ u6).ownsRow base' e size v n xs := by
  have ne : ∀ g, v.ownBlock = some g → g ≠ b := fun g e => by have := (h.lt g e).1; omega
  exact own_base (own_set (own_set (own_set (own_set (own_set (own_set (own_set h ne) ne) ne) ne) ne) ne) ne) hb
theorem below_set7 {B b : Nat} {w w' : World} {u0 u1 u2 u3 u4 u5 u6 : Value} (h : Below B w w') (hb : B ≤ b) :
    Below B w (((((((w'.setCell ⟨b, 0, none⟩ u0).setCell ⟨b, 1, none⟩ u1).setCell ⟨b, 2, none⟩ u2).setCell ⟨b, 3, none⟩ u3).setCell ⟨b, 4, none⟩ u4).setCell ⟨b, 5, none⟩ u5).setCell ⟨b, 6, none⟩ u6) :=
  below_set (below_set (below_set (below_set (below_set (below_set (below_set h hb) hb) hb) hb) hb) hb) hb
/-- What has been read of each piece. -/
structure RdOf (R : List (List UInt8)) (I : List AtomT) : Prop where
  le : I.length ≤ R.length
  each : ∀ j (h : j < I.length) (h2 : j < R.length), ∃ ok, AtmIs R[j] I[j].x I[j].n I[j].t I[j].y ok
theorem RdOf.nil (R : List (List UInt8)) : RdOf R [] := ⟨by simp, fun j h => by simp at h⟩
theorem RdOf.step {R : List (List UInt8)} {I : List AtomT} {p : List UInt8} {a : AtomT} {ok : Bool} (h : RdOf R I) (hk : I.length < R.length) (hp : R[I.length] = p) (ha : AtmIs p a.x a.n a.t a.y ok) : RdOf R (I ++ [a]) := by
  refine ⟨by simp; omega, fun j h1 h2 => ?_⟩
  by_cases e : j < I.length
  · obtain ⟨ok', h3⟩ := h.each j e h2
    exact ⟨ok', by rw [List.getElem_append_left e]; exact h3⟩
  · have ej : j = I.length := by simp at h1; omega
    subst ej
    exact ⟨ok, by rw [hp]; simpa using ha⟩
theorem good_ok {a : AtomT} (hg : a.good = true) (h0 : -9223372036854775808 ≤ a.n) (h1 : a.n ≤ 9223372036854775807) : a.Ok := by
  have hs := shape (k := a.x) (n := a.n) (t := a.t) (y := a.y) hg
  have z : (eB : ByteArray).size ≤ maxLen := by unfold maxLen; decide
  have ht : a.x = 3 ∨ a.x = 4 → a.t.size ≤ maxLen := fun hk => by
    have := good_text hg hk
    unfold maxLen; omega
  cases hs with
  | tru _ _ t y _ => exact ⟨h0, h1, by rw [t]; exact z, by rw [y]; exact z⟩
  | fal _ _ t y _ => exact ⟨h0, h1, by rw [t]; exact z, by rw [y]; exact z⟩
  | num _ t y _ => exact ⟨h0, h1, by rw [t]; exact z, by rw [y]; exact z⟩
  | txt k _ y _ => exact ⟨h0, h1, ht (.inl k), by rw [y]; exact z⟩
  | ref k _ _ _ => exact ⟨h0, h1, ht (.inr k), by
      have hg' : goodAtom 4 a.n a.t a.y = true := by rw [← k]; exact hg
      have := good_type hg'
      unfold maxLen; omega⟩
  | dec _ t y _ => exact ⟨h0, h1, by rw [t]; exact z, by rw [y]; exact z⟩
  | adr _ t y _ _ _ _ _ => exact ⟨h0, h1, by rw [t]; exact z, by rw [y]; exact z⟩
  | tim _ t y _ => exact ⟨h0, h1, by rw [t]; exact z, by rw [y]; exact z⟩
theorem atm_ok {l : List UInt8} {x n : Int} {t y : ByteArray} {ok : Bool} (h : AtmIs l x n t y ok) : AtomT.Ok ⟨x, n, t, y⟩ := by
  cases ok with
  | true =>
    obtain ⟨g, _, h0, h1⟩ := h.yes rfl
    exact good_ok (a := ⟨x, n, t, y⟩) g h0 h1
  | false =>
    obtain ⟨rfl, rfl, rfl, rfl⟩ := h.zero rfl
    exact ⟨by decide, by decide, by unfold maxLen; decide, by unfold maxLen; decide⟩
/-- What was read is what the pieces say. -/
theorem RdOf.is {R : List (List UInt8)} {I A : List AtomT} (h : RdOf R I) (hl : I.length = R.length) (e : R = A.map AtomT.l) (hg : ∀ a ∈ A, a.good = true ∧ a.Ok) : I = A := by
  have el : I.length = A.length := by rw [hl, e, List.length_map]
  apply List.ext_getElem el
  intro j h1 h2
  obtain ⟨ok, ha⟩ := h.each j h1 (by omega)
  have ep : R[j]'(by omega) = (A[j]).l := by simp [e]
  rw [ep] at ha
  obtain ⟨g, o⟩ := hg A[j] (List.getElem_mem _)
  obtain ⟨_, a, b, c, d⟩ := ha.all _ _ _ _ g o.n8 o.n9 rfl
  cases hI : I[j] with
  | mk x n t y =>
    rw [hI] at a b c d
    simp only at a b c d
    rw [a, b, c, d]
/-- The result's block and a value's box. -/
structure Two (w0 w : World) (k : Int) (v1 v2 : Value) : Prop where
  r : RowIs w w0.heap.size (zV 0 (.slice none 0 0) (.slice none 0 0)) 31
  b : RowIs w (w0.heap.size + 1) (zV k v1 v2) 31
theorem Two.keep {w0 w w' : World} {k : Int} {v1 v2 : Value} (h : Two w0 w k v1 v2) (hb : Below w.heap.size w w') : Two w0 w' k v1 v2 := ⟨h.r.keep hb, h.b.keep hb⟩
theorem Two.grown {w0 w w' : World} {k : Int} {v1 v2 : Value} {r : Option Nat} (h : Two w0 w k v1 v2) (hg : w.grownBy w' r) (hne : ∀ g, r = some g → w0.heap.size + 1 < g) : Two w0 w' k v1 v2 :=
  ⟨h.r.grown hg (fun e => by have := hne _ e.symm; omega), h.b.grown hg (fun e => by have := hne _ e.symm; omega)⟩
theorem Two.set1 {w0 w : World} {k : Int} {v1 v2 : Value} (h : Two w0 w k v1 v2) (u : Value) : Two w0 (w.setCell ⟨w0.heap.size + 1, 5, none⟩ u) k u v2 :=
  ⟨h.r.setOther u (by omega), by have := h.b.set 5 u; exact this⟩
theorem Two.set2 {w0 w : World} {k : Int} {v1 v2 : Value} (h : Two w0 w k v1 v2) (u : Value) : Two w0 (w.setCell ⟨w0.heap.size + 1, 6, none⟩ u) k v1 u :=
  ⟨h.r.setOther u (by omega), by have := h.b.set 6 u; exact this⟩
theorem two_new (w : World) (k : Int) {w1 : World} (hb : Below ((w.alloc (.cells (zV 0 (.slice none 0 0) (.slice none 0 0)) 31)).alloc (.cells (zV k (.slice none 0 0) (.slice none 0 0)) 31)).heap.size ((w.alloc (.cells (zV 0 (.slice none 0 0) (.slice none 0 0)) 31)).alloc (.cells (zV k (.slice none 0 0) (.slice none 0 0)) 31)) w1) : Two w w1 k (.slice none 0 0) (.slice none 0 0) := by
  have h1 := (RowIs.new w (zV 0 (.slice none 0 0) (.slice none 0 0)) 31).keep (bAl (Below.refl _ _) (.cells (zV k (.slice none 0 0) (.slice none 0 0)) 31))
  have h2 := RowIs.new (w.alloc (.cells (zV 0 (.slice none 0 0) (.slice none 0 0)) 31)) (zV k (.slice none 0 0) (.slice none 0 0)) 31
  exact ⟨h1.keep hb, by have := h2.keep hb; simpa using this⟩
theorem two_below (w : World) (k : Int) {w1 : World} (hb : Below ((w.alloc (.cells (zV 0 (.slice none 0 0) (.slice none 0 0)) 31)).alloc (.cells (zV k (.slice none 0 0) (.slice none 0 0)) 31)).heap.size ((w.alloc (.cells (zV 0 (.slice none 0 0) (.slice none 0 0)) 31)).alloc (.cells (zV k (.slice none 0 0) (.slice none 0 0)) 31)) w1) : Below w.heap.size w w1 :=
  bTr (bAl (bAl (Below.refl w.heap.size w) _) _) hb

set_option maxHeartbeats 2000000 in
theorem guessSet_any (s : ByteArray) (w : World) (hs : s.size ≤ 1048576) (hz : 1 ≤ s.size) (hE : Env w) :
    Calls Tryz.prog 57 #[.string s] w fun e w' => (∃ v1 I, e = .returned (.agg #[.int .i64 2, .int .i64 0, .int .i64 0, .string ⟨#[]⟩, .string ⟨#[]⟩, v1, .slice none 0 0]) ∧ w'.ownsRow w.heap.size 23 4 v1 I.length (atomsV I) ∧ Hid (∃ R, ItemsAre s.data.toList R ∧ RdOf R I ∧ I.length = R.length)) ∧ Below w.heap.size w w' := by
  have q1 := hide (fun w => guessItems_any s w hs hz)
  have HE := hide hE
  obtain ⟨i0, hi, hz0, hz1, hz2⟩ := info_parts info_atom
  clear hE
  go_enter Tryz.func57, Tryz.ntmps57
  go_wp2_with fail
  refine (unhide q1 _).mono ?_
  rintro e w1 ⟨⟨v, R, rfl, hown, hit⟩, hb1⟩
  have HR := hide (two_new w 2 hb1)
  have B1 := hide (two_below w 2 hb1)
  have HE1 := hide ((unhide HE).keep (unhide B1))
  have hbs := hide hown
  obtain ⟨av, cv, ev⟩ := own_sl hown
  subst ev
  clear hown hb1 q1
  have hRl := (unhide hit).len
  have lt1 : w.heap.size + 1 < w1.heap.size := (unhide HR).b.lt
  go_wp2_with fail
  go_loopw [12] (fun i w' => ∃ (k : Nat) (I : List AtomT) (v1 : Value), k ≤ R.length ∧ i = .int .i64 k ∧ I.length = k ∧ w1.heap.size ≤ w'.heap.size ∧ Hid (Two w w' 2 v1 (.slice none 0 0)) ∧ Hid (w'.ownsRow w1.heap.size 23 4 v1 k (atomsV I)) ∧ Hid (Below w.heap.size w w') ∧ Hid (w'.ownsRow (w.heap.size + 1 + 1) 9 1 (.slice av R.length cv) R.length (strsV R)) ∧ Hid (RdOf R I)) (fun i _ => R.length - (intOf i).toNat)
  case atStart => exact ⟨0, [], _, by omega, rfl, rfl, Nat.le_refl _, HR, hide (World.ownsRow_nil _ _ _ _), B1, hide (by simpa using unhide hbs), hide (RdOf.nil R)⟩
  case round =>
    obtain ⟨k, I, v1, hk, rfl, hI, hw1, hR, hown, hb, hrow, hrd⟩ := hrel
    by_cases hlt : k < R.length
    · rcases (unhide hrow).2 with ⟨_, e2⟩ | ⟨g, cap, cur, hv, hgb, hgc, hn1, hn2, hcs, htk⟩
      · omega
      obtain ⟨p, hp⟩ : ∃ p, R[k] = p := ⟨_, rfl⟩
      have ck : wr.cell? ⟨g, k, none⟩ = some (.string ⟨p.toArray⟩) := by rw [← hp]; exact own_cell hgc htk k hlt
      injection hv with hv1 hv2 hv3
      subst hv1 hv3
      have zp : p.length ≤ s.size := by
        have := (unhide hit).each p (by rw [← hp]; exact List.getElem_mem _)
        simpa using this
      have q2 := hide (fun w h => iReadAtom_any ⟨p.toArray⟩ w (by rw [sz_arr]; omega) h)
      have HEr := hide ((unhide HE).keep (unhide hb))
      clear hgc htk hcs
      go_wp2_with fail
      refine (unhide q2 _ (unhide HEr)).mono ?_
      rintro e w2 ⟨⟨x, n, t, y, ok, rfl, ha⟩, hb2⟩
      obtain ⟨C4, hC4⟩ : ∃ C4 : List Value, C4 = cellsA ⟨x, n, t, y⟩ := ⟨_, rfl⟩
      have ba := bAl (Below.refl w2.heap.size w2) (.cells #[.int .i64 x, .int .i64 n, .string t, .string y] 23)
      have R3 := hide (((unhide hR).keep hb2).keep ba)
      have O3 := hide ((own_keepT (unhide hown) hb2).alloc (.cells #[.int .i64 x, .int .i64 n, .string t, .string y] 23))
      have S3 := hide ((own_keepT (unhide hrow) hb2).alloc (.cells #[.int .i64 x, .int .i64 n, .string t, .string y] 23))
      have B3 := hide (bTr (bTr (unhide hb) hb2) ba)
      have b3 : wr.heap.size ≤ w2.heap.size := hb2.size
      obtain ⟨a1, c1, e1⟩ := own_sl (unhide hown)
      subst e1
      have c5 := (unhide R3).b.at (o := 5) (v := .slice a1 k c1) rfl
      have f5 := (unhide R3).b.froz 5
      have rd4 := hide ((unhide hrd).step (a := ⟨x, n, t, y⟩) (by omega) (by simp only [hI]; exact hp) ha)
      clear hrd hp
      clear ha hb2 q2 ck ba
      have t1 := hide ((unhide O3).alloc (.cells #[.int .i64 x, .int .i64 n, .string t, .string y] 23))
      have t2 := hide (cell_four_new (w2.alloc (.cells #[.int .i64 x, .int .i64 n, .string t, .string y] 23)) (cellsA ⟨x, n, t, y⟩) 23)
      have es : (w2.alloc (.cells #[.int .i64 x, .int .i64 n, .string t, .string y] 23)).heap.size = w2.heap.size + 1 := by simp
      rw [es] at t2
      clear es
      have t3 : ∀ u ∈ cellsA ⟨x, n, t, y⟩, u.oneCell' = true := (fun u hu => by simp [cellsA] at hu; rcases hu with rfl | rfl | rfl | rfl <;> rfl)
      have T3 := hide t3
      have t4 : w1.heap.size ≤ ((w2.alloc (.cells #[.int .i64 x, .int .i64 n, .string t, .string y] 23)).alloc (.cells #[.int .i64 x, .int .i64 n, .string t, .string y] 23)).heap.size := by simp; omega
      have T4 := hide t4
      have t5 : (k + 1) * 48 ≤ 140737488355328 := by omega
      clear t3 t4
      go_wp2_with (at_builtin; refine wpList_append_own_at _ rfl _ _ 28 rfl w1.heap.size 23 i0 _ 4 48 Tryz.underlying28 hi hz0 hz1 hz2 rfl (by decide) _ _ _ rfl (unhide t1) ⟨_, 0, none⟩ 1 1 (cellsA ⟨x, n, t, y⟩) rfl rfl (unhide t2) (unhide T3) (by unfold maxLen; omega) t5 (unhide T4) ?_; intro v3 w3 hown3 hgrow3 _ hat3; obtain ⟨av3, cv3, ev3⟩ := own_sl hown3; subst ev3; have ne1 : ∀ g, (Value.slice a1 k c1).ownBlock = some g → w.heap.size + 1 < g := (fun g e => by have := ((unhide O3).lt g e).1; omega); have R4 := hide ((((unhide R3).keep (bAl (Below.refl _ _) (.cells #[.int .i64 x, .int .i64 n, .string t, .string y] 23))).grown hgrow3 ne1)); have d5 := (unhide R4).b.at (o := 5) (v := .slice a1 k c1) rfl; have h5 := (unhide R4).b.froz 5)
      have gl : g < w1.heap.size := ((unhide hbs).lt g rfl).2
      have sz3 : w2.heap.size ≤ w3.heap.size := by have := hgrow3.size; simp at this; omega
      refine ⟨⟨k + 1, I ++ [⟨x, n, t, y⟩], _, by omega, by simp, by simp [hI], by simp [World.setCell]; omega, hide ((unhide R4).set1 _), hide ?_, hide ?_, hide ?_, rd4⟩, by simp [intOf]; omega⟩
      · rw [atomsV_snoc]
        exact own_set hown3 (fun g' e => by have := (hown3.lt g' e).1; omega)
      · exact below_set ((bAl (unhide B3) _).grown hgrow3 (by have := (unhide B3).size; simp; omega) (fun j hj => by have := ne1 j hj; omega)) (by omega)
      · refine own_set (((unhide S3).alloc _).kept hgrow3 (.inr (fun e => ?_))) (fun g' e => ?_)
        · have := ((unhide O3).lt g e.symm).1
          omega
        · have := ((unhide S3).lt g' e).1
          omega
    · have R3 := unhide hR
      have j0 := R3.b.at (o := 0) (v := .int .i64 2) rfl
      have j1 := R3.b.at (o := 1) (v := .int .i64 0) rfl
      have j2 := R3.b.at (o := 2) (v := .int .i64 0) rfl
      have j3 := R3.b.at (o := 3) (v := .string ⟨#[]⟩) rfl
      have j4 := R3.b.at (o := 4) (v := .string ⟨#[]⟩) rfl
      have j5 := R3.b.at (o := 5) (v := v1) rfl
      have j6 := R3.b.at (o := 6) (v := .slice none 0 0) rfl
      have d0 := R3.r.at (o := 0) (v := .int .i64 0) rfl
      have d1 := R3.r.at (o := 1) (v := .int .i64 0) rfl
      have d2 := R3.r.at (o := 2) (v := .int .i64 0) rfl
      have d3 := R3.r.at (o := 3) (v := .string ⟨#[]⟩) rfl
      have d4 := R3.r.at (o := 4) (v := .string ⟨#[]⟩) rfl
      have d5 := R3.r.at (o := 5) (v := .slice none 0 0) rfl
      have d6 := R3.r.at (o := 6) (v := .slice none 0 0) rfl
      have f0 := R3.r.froz 0
      have f1 := R3.r.froz 1
      have f2 := R3.r.froz 2
      have f3 := R3.r.froz 3
      have f4 := R3.r.froz 4
      have f5 := R3.r.froz 5
      have f6 := R3.r.froz 6
      obtain ⟨a5, c5, e5⟩ := own_sl (unhide hown)
      subst e5
      clear R3
      have ek : k = R.length := by omega
      have fin := hide (show ∃ R', ItemsAre s.data.toList R' ∧ RdOf R' I ∧ I.length = R'.length from ⟨R, unhide hit, unhide hrd, by omega⟩)
      clear hrd ek
      go_wp2_with fail
      refine bodyPost_ret (v := .agg #[.int .i64 2, .int .i64 0, .int .i64 0, .string ⟨#[]⟩, .string ⟨#[]⟩, .slice a5 k c5, .slice none 0 0]) (by simp [results, Tryz.results57, go_sem, d0, d1, d2, d3, d4, d5, d6]) rfl ⟨⟨_, I, rfl, ?_, fin⟩, below_set7 (unhide hb) (Nat.le_refl _)⟩
      rw [hI]
      exact own_set7 (unhide hown) (by omega) (by omega)
end Go.Proofs.YtijfgfdagfchiaaGreatDoor.V
/- impl.guessRecord. -/
namespace Go.Proofs.YtijfgfdagfchiaaGreatDoor.V
open Go.RowKit
set_option maxRecDepth 20000

/-- What has been read of each piece of a record. -/
structure RdRec (R N : List (List UInt8)) (I : List AtomT) : Prop where
  le : I.length ≤ R.length
  ln : N.length = I.length
  each : ∀ j (h : j < I.length) (h2 : j < R.length) (h3 : j < N.length), N[j] = (cutC 58 R[j]).1 ∧ ∃ ok, AtmIs (cutC 58 R[j]).2 I[j].x I[j].n I[j].t I[j].y ok
theorem RdRec.nil (R : List (List UInt8)) : RdRec R [] [] := ⟨by simp, rfl, fun j h => by simp at h⟩
theorem RdRec.step {R N : List (List UInt8)} {I : List AtomT} {p : List UInt8} {a : AtomT} {ok : Bool} (h : RdRec R N I) (hk : I.length < R.length) (hp : R[I.length] = p) (ha : AtmIs (cutC 58 p).2 a.x a.n a.t a.y ok) : RdRec R (N ++ [(cutC 58 p).1]) (I ++ [a]) := by
  have hl := h.ln
  refine ⟨by simp; omega, by simp [hl], fun j h1 h2 h3 => ?_⟩
  by_cases e : j < I.length
  · have h4 := h.each j e h2 (by omega)
    rw [List.getElem_append_left e, List.getElem_append_left (by omega)]
    exact h4
  · have ej : j = I.length := by simp at h1; omega
    subst ej
    refine ⟨?_, ok, ?_⟩
    · rw [hp, List.getElem_append_right (by omega)]; simp [hl]
    · rw [hp]; simpa using ha
theorem own_or {v u : Value} (h : ∀ g, v.ownBlock = some g → u.ownBlock ≠ some g) : v.ownBlock = none ∨ v.ownBlock ≠ u.ownBlock := by
  cases e : v.ownBlock with
  | none => exact .inl rfl
  | some g => exact .inr (fun e2 => h g e e2.symm)
theorem cut_len (c : UInt8) (l : List UInt8) : (cutC c l).1.length ≤ l.length ∧ (cutC c l).2.length ≤ l.length := by
  unfold cutC
  split
  · simp only [List.length_take, List.length_drop]; omega
  · simp

set_option maxHeartbeats 4000000 in
theorem guessRecord_any (s : ByteArray) (w : World) (hs : s.size ≤ 1048576) (hz : 1 ≤ s.size) (hE : Env w) :
    Calls Tryz.prog 58 #[.string s] w fun e w' => (∃ v1 v2 I N, e = .returned (.agg #[.int .i64 3, .int .i64 0, .int .i64 0, .string ⟨#[]⟩, .string ⟨#[]⟩, v1, v2]) ∧ w'.ownsRow w.heap.size 23 4 v1 I.length (atomsV I) ∧ w'.ownsRow w.heap.size 9 1 v2 N.length (strsV N) ∧ (∀ g, v1.ownBlock = some g → v2.ownBlock ≠ some g) ∧ Hid (∃ R, ItemsAre s.data.toList R ∧ RdRec R N I ∧ I.length = R.length)) ∧ Below w.heap.size w w' := by
  have q1 := hide (fun w => guessItems_any s w hs hz)
  have HE := hide hE
  obtain ⟨i0, hi, hz0, hz1, hz2⟩ := info_parts info_atom
  obtain ⟨i1, gi, gz0, gz1, gz2⟩ := info_parts info_str
  clear hE
  go_enter Tryz.func58, Tryz.ntmps58
  go_wp2_with fail
  refine (unhide q1 _).mono ?_
  rintro e w1 ⟨⟨v, R, rfl, hown, hit⟩, hb1⟩
  have HR := hide (two_new w 3 hb1)
  have B1 := hide (two_below w 3 hb1)
  have hbs := hide hown
  obtain ⟨av, cv, ev⟩ := own_sl hown
  subst ev
  clear hown hb1 q1
  have hRl := (unhide hit).len
  have lt1 : w.heap.size + 1 < w1.heap.size := (unhide HR).b.lt
  go_wp2_with fail
  go_loopw [15] (fun i w' => ∃ (k : Nat) (I : List AtomT) (N : List (List UInt8)) (v1 v2 : Value), k ≤ R.length ∧ i = .int .i64 k ∧ I.length = k ∧ N.length = k ∧ w1.heap.size ≤ w'.heap.size ∧ Hid (Two w w' 3 v1 v2) ∧ Hid (w'.ownsRow w1.heap.size 23 4 v1 k (atomsV I)) ∧ Hid (w'.ownsRow w1.heap.size 9 1 v2 k (strsV N)) ∧ Hid (∀ g, v1.ownBlock = some g → v2.ownBlock ≠ some g) ∧ Hid (Below w.heap.size w w') ∧ Hid (w'.ownsRow (w.heap.size + 1 + 1) 9 1 (.slice av R.length cv) R.length (strsV R)) ∧ Hid (RdRec R N I)) (fun i _ => R.length - (intOf i).toNat)
  case atStart => exact ⟨0, [], [], _, _, by omega, rfl, rfl, rfl, Nat.le_refl _, HR, hide (World.ownsRow_nil _ _ _ _), hide (World.ownsRow_nil _ _ _ _), hide (fun g h => by cases h), B1, hide (by simpa using unhide hbs), hide (RdRec.nil R)⟩
  case round =>
    obtain ⟨k, I, N, v1, v2, hk, rfl, hI, hN, hw1, hR, hown, hownN, hdj, hb, hrow, hrd⟩ := hrel
    by_cases hlt : k < R.length
    · rcases (unhide hrow).2 with ⟨_, e2⟩ | ⟨g, cap, cur, hv, hgb, hgc, hn1, hn2, hcs, htk⟩
      · omega
      obtain ⟨p, hp⟩ : ∃ p, R[k] = p := ⟨_, rfl⟩
      have ck : wr.cell? ⟨g, k, none⟩ = some (.string ⟨p.toArray⟩) := by rw [← hp]; exact own_cell hgc htk k hlt
      injection hv with hv1 hv2 hv3
      subst hv1 hv3
      have zp : p.length ≤ s.size := by
        have := (unhide hit).each p (by rw [← hp]; exact List.getElem_mem _)
        simpa using this
      have hcl := cut_len 58 p
      have q0 := hide (fun w => strCutC 58 ⟨p.toArray⟩ w (by rw [sz_arr]; omega))
      have stp := hide (fun (a : AtomT) (ok : Bool) (ha : AtmIs (cutC 58 p).2 a.x a.n a.t a.y ok) => (unhide hrd).step (by omega) (by simp only [hI]; exact hp) ha)
      simp only at q0
      generalize (cutC 58 p).1 = P1 at q0 stp hcl
      generalize (cutC 58 p).2 = P2 at q0 stp hcl
      have q2 := hide (fun w h => iReadAtom_any ⟨P2.toArray⟩ w (by rw [sz_arr]; omega) h)
      clear hgc htk hcs hrd hp
      go_wp2_with fail
      refine (unhide q0 _).mono ?_
      rintro e w2 ⟨⟨bb, rfl⟩, hb2⟩
      have B2 := hide (bTr (unhide hb) hb2)
      have HE2 := hide ((unhide HE).keep (unhide B2))
      replace hR := hide ((unhide hR).keep hb2)
      replace hown := hide (own_keepT (unhide hown) hb2)
      replace hownN := hide (own_keepT (unhide hownN) hb2)
      replace hrow := hide (own_keepT (unhide hrow) hb2)
      have sz2 : wr.heap.size ≤ w2.heap.size := hb2.size
      clear hb hb2 q0 ck
      go_wp2_with fail
      refine (unhide q2 _ (unhide HE2)).mono ?_
      rintro e w3 ⟨⟨x, n, t, y, ok, rfl, ha⟩, hb3⟩
      have l1 := hide (own_keepT (unhide hown) hb3).lt
      have l2 := hide (own_keepT (unhide hownN) hb3).lt
      have rd4 := hide (unhide stp ⟨x, n, t, y⟩ ok ha)
      have ba := bAl (Below.refl w3.heap.size w3) (.cells #[.int .i64 x, .int .i64 n, .string t, .string y] 23)
      have RA := hide (RowIs.new w3 #[.int .i64 x, .int .i64 n, .string t, .string y] 23)
      replace hR := hide (((unhide hR).keep hb3).keep ba)
      replace hown := hide ((own_keepT (unhide hown) hb3).alloc (.cells #[.int .i64 x, .int .i64 n, .string t, .string y] 23))
      replace hownN := hide ((own_keepT (unhide hownN) hb3).alloc (.cells #[.int .i64 x, .int .i64 n, .string t, .string y] 23))
      replace hrow := hide ((own_keepT (unhide hrow) hb3).alloc (.cells #[.int .i64 x, .int .i64 n, .string t, .string y] 23))
      have B3 := hide (bTr (bTr (unhide B2) hb3) ba)
      have sz3 : w2.heap.size ≤ w3.heap.size := hb3.size
      obtain ⟨W3, hW3⟩ : ∃ W3, W3 = w3.alloc (.cells #[.int .i64 x, .int .i64 n, .string t, .string y] 23) := ⟨_, rfl⟩
      have sW3 : W3.heap.size = w3.heap.size + 1 := by rw [hW3]; simp
      obtain ⟨a1, c1, e1⟩ := own_sl (unhide hown)
      subst e1
      obtain ⟨a2, c2, e2⟩ := own_sl (unhide hownN)
      subst e2
      have c6 := (unhide hR).b.at (o := 6) (v := .slice a2 k c2) rfl
      have f6 := (unhide hR).b.froz 6
      clear ha hb3 q2 ba stp B2 HE2
      have t1 := hide ((unhide hownN).alloc (.cells #[.string ⟨P1.toArray⟩] 9))
      have t2 := hide (cell_one_new (w3.alloc (.cells #[.int .i64 x, .int .i64 n, .string t, .string y] 23)) (.string ⟨P1.toArray⟩) 9)
      rw [← hW3, sW3] at t2
      rw [hW3] at t2
      have T4 := hide (show w1.heap.size ≤ ((w3.alloc (.cells #[.int .i64 x, .int .i64 n, .string t, .string y] 23)).alloc (.cells #[.string ⟨P1.toArray⟩] 9)).heap.size by simp; omega)
      have t5 : (k + 1) * 16 ≤ 140737488355328 := by omega
      have t6 : (k + 1) * 48 ≤ 140737488355328 := by omega
      have T3 := hide (show ∀ u ∈ cellsA ⟨x, n, t, y⟩, u.oneCell' = true from fun u hu => by simp [cellsA] at hu; rcases hu with rfl | rfl | rfl | rfl <;> rfl)
      go_wp2_with (first | (at_builtin; refine wpList_append_own_at _ rfl _ _ 29 rfl w1.heap.size 9 i1 _ 1 16 Tryz.underlying29 gi gz0 gz1 gz2 rfl (by decide) _ _ _ rfl (unhide t1) ⟨_, 0, none⟩ 1 1 [.string _] rfl rfl (unhide t2) (fun x hx => by simp at hx; subst hx; rfl) (by unfold maxLen; omega) t5 (unhide T4) ?_; intro v4 w4 hown4 hgrow4 _ hat4; obtain ⟨av4, cv4, ev4⟩ := own_sl hown4; subst ev4; have ne2 : ∀ g, (Value.slice a2 k c2).ownBlock = some g → w.heap.size + 1 < g := (fun g e => by have := ((unhide hownN).lt g e).1; omega); have R4 := hide (((unhide hR).keep (bAl (Below.refl _ _) (.cells #[.string ⟨P1.toArray⟩] 9))).grown hgrow4 ne2); have d6 := (unhide R4).b.at (o := 6) (v := .slice a2 k c2) rfl; have h6 := (unhide R4).b.froz 6; have R5 := hide ((unhide R4).set2 (.slice av4 (k + 1) cv4)); have e5 := (unhide R5).b.at (o := 5) (v := .slice a1 k c1) rfl; have g5 := (unhide R5).b.froz 5; have RA5 := hide ((((unhide RA).keep (bAl (Below.refl _ _) (.cells #[.string ⟨P1.toArray⟩] 9))).grown hgrow4 (fun e => by have := (unhide l2 _ e.symm).2; omega)).setOther (o' := 6) (.slice av4 (k + 1) cv4) (show w3.heap.size ≠ w.heap.size + 1 by omega)); have x0 := (unhide RA5).at (o := 0) (v := .int .i64 x) rfl; have x1 := (unhide RA5).at (o := 1) (v := .int .i64 n) rfl; have x2 := (unhide RA5).at (o := 2) (v := .string t) rfl; have x3 := (unhide RA5).at (o := 3) (v := .string y) rfl; have O5 := hide (own_set (b := w.heap.size + 1) (o := 6) (u := .slice av4 (k + 1) cv4) (((unhide hown).alloc (.cells #[.string ⟨P1.toArray⟩] 9)).kept hgrow4 (own_or (unhide hdj))) (fun g' e => by have := (unhide l1 g' e).1; omega)); have sz4 : w3.heap.size + 2 ≤ w4.heap.size := (by have := hgrow4.size; simp at this; omega); have O6 := hide ((unhide O5).alloc (.cells #[.int .i64 x, .int .i64 n, .string t, .string y] 23)); have t7 := hide (cell_four_new (w4.setCell ⟨w.heap.size + 1, 6, none⟩ (.slice av4 (k + 1) cv4)) (cellsA ⟨x, n, t, y⟩) 23); rw [show (World.setCell w4 ⟨w.heap.size + 1, 6, none⟩ (.slice av4 (k + 1) cv4)).heap.size = w4.heap.size by simp [World.setCell]] at t7; have T8 := hide (show w1.heap.size ≤ ((w4.setCell ⟨w.heap.size + 1, 6, none⟩ (.slice av4 (k + 1) cv4)).alloc (.cells #[.int .i64 x, .int .i64 n, .string t, .string y] 23)).heap.size by simp [World.setCell]; omega)) | (at_builtin; refine wpList_append_own_at _ rfl _ _ 28 rfl w1.heap.size 23 i0 _ 4 48 Tryz.underlying28 hi hz0 hz1 hz2 rfl (by decide) _ _ _ rfl (unhide O6) ⟨_, 0, none⟩ 1 1 (cellsA ⟨x, n, t, y⟩) rfl rfl (unhide t7) (unhide T3) (by unfold maxLen; omega) t6 (unhide T8) ?_; intro v6 w6 hown6 hgrow6 _ hat6; obtain ⟨av6, cv6, ev6⟩ := own_sl hown6; subst ev6; have ne1 : ∀ g, (Value.slice a1 k c1).ownBlock = some g → w.heap.size + 1 < g := (fun g e => by have := (unhide l1 g e).1; omega); have R7 := hide (((unhide R5).keep (bAl (Below.refl _ _) (.cells #[.int .i64 x, .int .i64 n, .string t, .string y] 23))).grown hgrow6 ne1); have y5 := (unhide R7).b.at (o := 5) (v := .slice a1 k c1) rfl; have z5 := (unhide R7).b.froz 5))
      have gl : g < w1.heap.size := ((unhide hbs).lt g rfl).2
      have l4 := hown4.lt
      have eh4 : ((w3.alloc (.cells #[.int .i64 x, .int .i64 n, .string t, .string y] 23)).alloc (.cells #[.string ⟨P1.toArray⟩] 9)).heap.size = w3.heap.size + 2 := by simp
      have eh6 : ((w4.setCell ⟨w.heap.size + 1, 6, none⟩ (.slice av4 (k + 1) cv4)).alloc (.cells #[.int .i64 x, .int .i64 n, .string t, .string y] 23)).heap.size = w4.heap.size + 1 := by simp [World.setCell]
      have dj4 : ∀ g', (Value.slice a1 k c1).ownBlock = some g' → (Value.slice av4 (k + 1) cv4).ownBlock ≠ some g' := by
        intro g' e1 e2
        rcases hat4 with h | h
        · rw [h] at e2; exact unhide hdj g' e1 e2
        · rw [h, eh4] at e2
          injection e2 with e2
          have := (unhide l1 g' e1).2
          omega
      have dj6 : ∀ g', (Value.slice av6 (k + 1) cv6).ownBlock = some g' → (Value.slice av4 (k + 1) cv4).ownBlock ≠ some g' := by
        intro g' e1 e2
        rcases hat6 with h | h
        · rw [h] at e1; exact dj4 g' e1 e2
        · rw [h, eh6] at e1
          injection e1 with e1
          have := (l4 g' e2).2
          omega
      have sz6 : w4.heap.size + 1 ≤ w6.heap.size := by have := hgrow6.size; omega
      refine ⟨⟨k + 1, I ++ [⟨x, n, t, y⟩], N ++ [P1], _, _, by omega, by simp, by simp [hI], by simp [hN], by simp [World.setCell]; omega, hide ((unhide R7).set1 _), hide ?_, hide ?_, hide dj6, hide ?_, hide ?_, rd4⟩, by simp [intOf]; omega⟩
      · rw [atomsV_snoc]
        exact own_set hown6 (fun g' e => by have := (hown6.lt g' e).1; omega)
      · have e : strsV (N ++ [P1]) = strsV N ++ [.string ⟨P1.toArray⟩] := by simp [strsV]
        rw [e]
        exact own_set (((own_set hown4 (fun g' e => by have := (l4 g' e).1; omega)).alloc _).kept hgrow6 (own_or (fun g' e1 e2 => dj4 g' e2 e1))) (fun g' e => by have := (l4 g' e).1; omega)
      · refine below_set ((bAl (below_set ((bAl (unhide B3) _).grown hgrow4 (by have := (unhide B3).size; simp; omega) (fun j hj => by have := ne2 j hj; omega)) (by omega)) _).grown hgrow6 (by rw [eh6]; omega) (fun j hj => by have := ne1 j hj; omega)) (by omega)
      · have ng : ∀ g', (Value.slice (some (⟨g, 0, none⟩ : Addr)) R.length cv).ownBlock = some g' → g' = g := fun g' e => by injection e with e; exact e.symm
        refine own_set (((own_set (((unhide hrow).alloc _).kept hgrow4 (.inr (fun e => ?_))) (fun g' e => ?_)).alloc _).kept hgrow6 (.inr (fun e => ?_))) (fun g' e => ?_)
        · have := (unhide l2 g e.symm).1
          omega
        · have := ((unhide hrow).lt g' e).1
          omega
        · have := (unhide l1 g e.symm).1
          omega
        · have := ((unhide hrow).lt g' e).1
          omega
    · have R3 := unhide hR
      obtain ⟨a5, c5, e5⟩ := own_sl (unhide hown)
      subst e5
      obtain ⟨a6, c6, e6⟩ := own_sl (unhide hownN)
      subst e6
      have j0 := R3.b.at (o := 0) (v := .int .i64 3) rfl
      have j1 := R3.b.at (o := 1) (v := .int .i64 0) rfl
      have j2 := R3.b.at (o := 2) (v := .int .i64 0) rfl
      have j3 := R3.b.at (o := 3) (v := .string ⟨#[]⟩) rfl
      have j4 := R3.b.at (o := 4) (v := .string ⟨#[]⟩) rfl
      have j5 := R3.b.at (o := 5) (v := .slice a5 k c5) rfl
      have j6 := R3.b.at (o := 6) (v := .slice a6 k c6) rfl
      have d0 := R3.r.at (o := 0) (v := .int .i64 0) rfl
      have d1 := R3.r.at (o := 1) (v := .int .i64 0) rfl
      have d2 := R3.r.at (o := 2) (v := .int .i64 0) rfl
      have d3 := R3.r.at (o := 3) (v := .string ⟨#[]⟩) rfl
      have d4 := R3.r.at (o := 4) (v := .string ⟨#[]⟩) rfl
      have d5 := R3.r.at (o := 5) (v := .slice none 0 0) rfl
      have d6 := R3.r.at (o := 6) (v := .slice none 0 0) rfl
      have f0 := R3.r.froz 0
      have f1 := R3.r.froz 1
      have f2 := R3.r.froz 2
      have f3 := R3.r.froz 3
      have f4 := R3.r.froz 4
      have f5 := R3.r.froz 5
      have f6 := R3.r.froz 6
      clear R3
      have ek : k = R.length := by omega
      have fin := hide (show ∃ R', ItemsAre s.data.toList R' ∧ RdRec R' N I ∧ I.length = R'.length from ⟨R, unhide hit, unhide hrd, by omega⟩)
      clear hrd ek
      go_wp2_with fail
      refine bodyPost_ret (v := .agg #[.int .i64 3, .int .i64 0, .int .i64 0, .string ⟨#[]⟩, .string ⟨#[]⟩, .slice a5 k c5, .slice a6 k c6]) (by simp [results, Tryz.results58, go_sem, d0, d1, d2, d3, d4, d5, d6]) rfl ⟨⟨_, _, I, N, rfl, ?_, ?_, unhide hdj, fin⟩, below_set7 (unhide hb) (Nat.le_refl _)⟩
      · rw [hI]
        exact own_set7 (unhide hown) (by omega) (by omega)
      · rw [hN]
        exact own_set7 (unhide hownN) (by omega) (by omega)
end Go.Proofs.YtijfgfdagfchiaaGreatDoor.V
/- A guess of a value fits: pure; rows that are owned, as lists. -/
namespace Go.Proofs.YtijfgfdagfchiaaGreatDoor.V
open Go.RowKit
set_option maxRecDepth 20000

abbrev zA : AtomT := ⟨0, 0, ⟨#[]⟩, ⟨#[]⟩⟩
def mkB (l : List UInt8) : ByteArray := ⟨l.toArray⟩
structure GuessV (l : List UInt8) (v : ValT) : Prop where
  ok : v.Ok
  fit : ∀ v' : ValT, v'.Ok → GoodVal v' → valL v' = l → v = v'
theorem zA_ok : AtomT.Ok zA := ⟨by decide, by decide, by unfold maxLen; decide, by unfold maxLen; decide⟩
theorem nc_brk {c : UInt8} (h : NC c) : ¬ c = 91 ∧ ¬ c = 123 := by
  rcases h with rfl | h
  · exact ⟨by decide, by decide⟩
  · unfold Dig at h
    exact ⟨fun e => by rw [e] at h; exact absurd h (by decide), fun e => by rw [e] at h; exact absurd h (by decide)⟩
theorem atom_head {k n : Int} {t y : ByteArray} {c : UInt8} {r : List UInt8} (hg : goodAtom k n t y = true) (h0 : -9223372036854775808 ≤ n) (h1 : n ≤ 9223372036854775807) (e : atomL k n t y = c :: r) : ¬ c = 91 ∧ ¬ c = 123 := by
  cases hed hg h0 h1 e with
  | tru _ _ _ _ l => injection l with l; subst l; exact ⟨by decide, by decide⟩
  | fal _ _ _ _ l => injection l with l; subst l; exact ⟨by decide, by decide⟩
  | txt _ _ _ l => subst l; exact ⟨by decide, by decide⟩
  | tim _ _ _ l => subst l; exact ⟨by decide, by decide⟩
  | ref _ _ l => exact ⟨fun e => by rw [e] at l; exact absurd l (by decide), fun e => by rw [e] at l; exact absurd l (by decide)⟩
  | adr _ _ _ l => exact nc_brk l
  | dec _ _ _ _ _ l => exact nc_brk l
  | num _ _ _ l => exact nc_brk l
theorem mid_of (c d : UInt8) (m : List UInt8) : midL (c :: (m ++ [d])) = m := by
  unfold midL
  simp
theorem valL_1 {v : ValT} (h : v.k = 1) : valL v = v.a.l := by unfold valL; rw [if_pos h]
theorem valL_2 {v : ValT} (h : v.k = 2) : valL v = 91 :: (Lib.join (v.items.map AtomT.l) [44] ++ [93]) := by
  unfold valL pieces; rw [if_neg (by omega), if_neg (by omega), if_neg (by omega)]
theorem valL_3 {v : ValT} (h : v.k = 3) : valL v = 123 :: (Lib.join (List.zipWith (fun n a => n.data.toList ++ 58 :: AtomT.l a) v.names v.items) [44] ++ [125]) := by
  unfold valL pieces; rw [if_neg (by omega), if_pos h, if_pos h]
theorem good_first {v : ValT} (hv : v.Ok) (hg : v.k = 1) (h : v.a.good = true) : ∃ c r, valL v = c :: r ∧ ¬ c = 91 ∧ ¬ c = 123 := by
  rw [valL_1 hg]
  obtain ⟨c, r, e⟩ := atomL_cons (k := v.a.x) (n := v.a.n) (t := v.a.t) (y := v.a.y) h hv.a.n8 hv.a.n9
  exact ⟨c, r, e, atom_head h hv.a.n8 hv.a.n9 e⟩
theorem fits_set {A : List AtomT} (hA : ∀ a ∈ A, a.good = true ∧ a.Ok) (h50 : A.length ≤ 50) (hne : A ≠ []) : Fits (Lib.join (A.map AtomT.l) [44]) (A.map AtomT.l) := by
  refine ⟨⟨?_, by simpa using h50⟩, ?_, rfl⟩
  · cases A with
    | nil => exact absurd rfl hne
    | cons a A => simp
  · intro p hp
    obtain ⟨a, ha, rfl⟩ := List.mem_map.1 hp
    obtain ⟨g, o⟩ := hA a ha
    refine ⟨pass_atom g o.n8 o.n9, fun e => ?_⟩
    obtain ⟨c, r, e2⟩ := atomL_cons (k := a.x) (n := a.n) (t := a.t) (y := a.y) g o.n8 o.n9
    have e3 : a.l = c :: r := e2
    rw [e3] at e
    cases e
theorem set_fits {l : List UInt8} {R : List (List UInt8)} {I : List AtomT} (hi : ItemsAre l R) (hr : RdOf R I) (hl : I.length = R.length) (hc : ∃ r, l = 91 :: r) : GuessV l ⟨2, zA, I, []⟩ := by
  refine ⟨⟨zA_ok, fun q hq => ?_, fun q hq => by cases hq⟩, fun v' hv hg e => ?_⟩
  · obtain ⟨j, hj, rfl⟩ := List.getElem_of_mem hq
    obtain ⟨ok, ha⟩ := hr.each j hj (by have : j < I.length := hj; omega)
    exact atm_ok ha
  · obtain ⟨r, hc⟩ := hc
    rcases hg with ⟨h1, h2, _, _⟩ | ⟨h1, h2, h3, h4, _, h6⟩ | ⟨h1, _⟩
    · exfalso
      obtain ⟨c, r', e2, n1, _⟩ := good_first hv h1 h2
      rw [e2, hc] at e
      injection e with e
      exact n1 e
    · have hA : ∀ a ∈ v'.items, a.good = true ∧ a.Ok := fun a ha => by
        obtain ⟨j, hj, rfl⟩ := List.getElem_of_mem ha
        exact ⟨h4 j hj hj, hv.items _ (List.getElem_mem _)⟩
      have em : midL l = Lib.join (v'.items.map AtomT.l) [44] := by rw [← e, valL_2 h1, mid_of]
      have eI : I = v'.items := by
        by_cases hn : v'.items = []
        · have : R = [] := hi.nil (by rw [em, hn]; rfl)
          rw [hn]
          exact List.length_eq_zero_iff.1 (by rw [hl, this]; rfl)
        · exact hr.is hl (hi.all _ (by rw [em]; exact fits_set hA h3 hn)) hA
      obtain ⟨k, a, items, names⟩ := v'
      simp only at h1 h2 h6 eI
      rw [eI, h1, h6, zeroA_eq h2]
    · exfalso
      rw [valL_3 h1, hc] at e
      injection e with e
      exact absurd e (by decide)
theorem rec_fits {l : List UInt8} {R N : List (List UInt8)} {I : List AtomT} (hs : l.length ≤ 1048576) (hi : ItemsAre l R) (hr : RdRec R N I) (hl : I.length = R.length) (hc : ∃ r, l = 123 :: r) : GuessV l ⟨3, zA, I, N.map mkB⟩ := by
  have hln := hr.ln
  refine ⟨⟨zA_ok, fun q hq => ?_, fun q hq => ?_⟩, fun v' hv hg e => ?_⟩
  · obtain ⟨j, hj, rfl⟩ := List.getElem_of_mem hq
    have hj' : j < I.length := hj
    obtain ⟨_, ok, ha⟩ := hr.each j hj (by omega) (by omega)
    exact atm_ok ha
  · obtain ⟨p, hp, rfl⟩ := List.mem_map.1 hq
    obtain ⟨j, hj, rfl⟩ := List.getElem_of_mem hp
    obtain ⟨e1, _⟩ := hr.each j (by omega) (by omega) hj
    have := hi.each R[j] (List.getElem_mem _)
    have h2 := (cut_len 58 R[j]).1
    unfold mkB
    rw [sz_arr, e1]
    unfold maxLen
    omega
  · obtain ⟨r, hc⟩ := hc
    rcases hg with ⟨h1, h2, _, _⟩ | ⟨h1, _⟩ | ⟨h1, h2, h3, h4, h5, h6, _⟩
    · exfalso
      obtain ⟨c, r', e2, _, n1⟩ := good_first hv h1 h2
      rw [e2, hc] at e
      injection e with e
      exact n1 e
    · exfalso
      rw [valL_2 h1, hc] at e
      injection e with e
      exact absurd e (by decide)
    · obtain ⟨Z, hZ⟩ : ∃ Z, List.zipWith (fun n a => n.data.toList ++ 58 :: AtomT.l a) v'.names v'.items = Z := ⟨_, rfl⟩
      have em : midL l = Lib.join Z [44] := by rw [← e, valL_3 h1, mid_of, hZ]
      have lZ : Z.length = v'.items.length := by rw [← hZ, List.length_zipWith]; omega
      have gZ : ∀ j (hj : j < Z.length), Z[j] = (v'.names[j]'(by omega)).data.toList ++ 58 :: (v'.items[j]'(by omega)).l := fun j hj => by simp [← hZ]
      have gA : ∀ j (hj : j < v'.items.length), (v'.items[j]).good = true ∧ (v'.items[j]).Ok := fun j hj => ⟨h4 j hj hj, hv.items _ (List.getElem_mem _)⟩
      have gN : ∀ j (hj : j < v'.names.length), goodName v'.names[j] = true := fun j hj => h6 j hj hj
      have eR : R = Z := by
        by_cases hn : v'.items = []
        · have z0 : Z = [] := List.length_eq_zero_iff.1 (by rw [lZ, hn]; rfl)
          rw [z0]
          exact hi.nil (by rw [em, z0]; rfl)
        · refine hi.all Z (by
            rw [em]
            refine ⟨⟨?_, by omega⟩, fun p hp => ?_, rfl⟩
            · have : 0 < v'.items.length := List.length_pos_iff.2 hn
              omega
            · obtain ⟨j, hj, rfl⟩ := List.getElem_of_mem hp
              rw [gZ j hj]
              obtain ⟨g, o⟩ := gA j (by omega)
              have e2 : (v'.names[j]'(by omega)).data.toList ++ 58 :: (v'.items[j]'(by omega)).l = ((v'.names[j]'(by omega)).data.toList ++ [58]) ++ (v'.items[j]'(by omega)).l := by simp
              refine ⟨?_, by simp⟩
              rw [e2]
              exact ((pass_name (gN j (by omega))).app (pass_one (by decide) (by decide))).app (pass_atom g o.n8 o.n9))
      have cR : ∀ j (hj : j < Z.length), cutC 58 Z[j] = ((v'.names[j]'(by omega)).data.toList, (v'.items[j]'(by omega)).l) := fun j hj => by
        rw [gZ j hj]
        exact cutC_app 58 _ _ (fun h => (okc_plain ((name_parts (gN j (by omega))).2 _ h)).2.2 rfl)
      subst eR
      have eI : I = v'.items := by
        apply List.ext_getElem (by omega)
        intro j a1 a2
        obtain ⟨_, ok, ha⟩ := hr.each j a1 (by omega) (by omega)
        rw [cR j (by omega)] at ha
        obtain ⟨g, o⟩ := gA j a2
        obtain ⟨_, a, b, c, d⟩ := ha.all _ _ _ _ g o.n8 o.n9 rfl
        cases hI : I[j] with
        | mk x n t y =>
          rw [hI] at a b c d
          simp only at a b c d
          rw [a, b, c, d]
      have eN : N.map mkB = v'.names := by
        apply List.ext_getElem (by rw [List.length_map]; omega)
        intro j a1 a2
        rw [List.length_map] at a1
        obtain ⟨e1, _⟩ := hr.each j (by omega) (by omega) a1
        rw [cR j (by omega)] at e1
        rw [List.getElem_map, e1]
        unfold mkB
        exact mk_list _
      obtain ⟨k, a, items, names⟩ := v'
      simp only at h1 h2 eI eN
      rw [eI, eN, h1, zeroA_eq h2]
theorem atom_fits {l : List UInt8} {x n : Int} {t y : ByteArray} {ok : Bool} (h : AtmIs l x n t y ok) (hc : ∀ r, ¬ l = 91 :: r ∧ ¬ l = 123 :: r) : GuessV l ⟨1, ⟨x, n, t, y⟩, [], []⟩ := by
  refine ⟨⟨atm_ok h, (fun q hq => by cases hq), (fun q hq => by cases hq)⟩, fun v' hv hg e => ?_⟩
  rcases hg with ⟨h1, h2, h3, h4⟩ | ⟨h1, _⟩ | ⟨h1, _⟩
  · rw [valL_1 h1] at e
    obtain ⟨_, a, b, c, d⟩ := h.all _ _ _ _ h2 hv.a.n8 hv.a.n9 e
    obtain ⟨k, ⟨x', n', t', y'⟩, items, names⟩ := v'
    simp only at h1 h3 h4 a b c d
    rw [h1, h3, h4, a, b, c, d]
  · rw [valL_2 h1] at e
    exact absurd e.symm (hc _).1
  · rw [valL_3 h1] at e
    exact absurd e.symm (hc _).2

theorem atomsV_get : ∀ (l : List AtomT) (i j : Nat) (h : i < l.length), j < 4 → (atomsV l)[i * 4 + j]? = (cellsA l[i])[j]?
  | a :: l, 0, j, _, hj => by
    show (cellsA a ++ atomsV l)[0 * 4 + j]? = _
    rw [List.getElem?_append_left (by show 0 * 4 + j < 4; omega), Nat.zero_mul, Nat.zero_add]
    rfl
  | a :: l, i + 1, j, h, hj => by
    show (cellsA a ++ atomsV l)[(i + 1) * 4 + j]? = _
    rw [List.getElem?_append_right (by show 4 ≤ _; omega), show (i + 1) * 4 + j - (cellsA a).length = i * 4 + j by show _ - 4 = _; omega]
    exact atomsV_get l i j (by simpa using h) hj
theorem atomsV_len (l : List AtomT) : (atomsV l).length = l.length * 4 := by
  induction l with
  | nil => rfl
  | cons a l ih =>
    show (cellsA a ++ atomsV l).length = _
    rw [List.length_append, ih]
    show 4 + _ = (l.length + 1) * 4
    omega
theorem sla_own {w : World} {base cap len : Nat} {a : Option Addr} {l : List AtomT} (h : w.ownsRow base 23 4 (.slice a len cap) len (atomsV l)) : SlA w a len l := by
  have hl : len = l.length := by have := h.1; rw [atomsV_len] at this; omega
  refine ⟨hl, ?_⟩
  rcases h.2 with ⟨e, hn⟩ | ⟨g, c, cur, hv, hg, hc, _, _, _, htk⟩
  · exact .inl (List.length_eq_zero_iff.1 (by omega))
  · injection hv with hv
    refine .inr ⟨g, 0, hv, ⟨(Array.getElem?_eq_some_iff.1 hc).1, fun i hi => ?_⟩⟩
    have cell : ∀ j, j < 4 → w.cell? ⟨g, 0 + i * 4 + j, none⟩ = (cellsA l[i])[j]? := fun j hj => by
      have h2 := congrArg (fun l => l[i * 4 + j]?) htk
      simp only [List.getElem?_take] at h2
      rw [if_pos (by omega), Array.getElem?_toList, atomsV_get l i j hi hj] at h2
      simp only [World.cell?, hc, Nat.zero_add]
      exact h2
    exact ⟨cell 0 (by omega), cell 1 (by omega), cell 2 (by omega), cell 3 (by omega)⟩
theorem sls_own {w : World} {base cap len : Nat} {a : Option Addr} {l : List ByteArray} (h : w.ownsRow base 9 1 (.slice a len cap) len (l.map Value.string)) : SlS w a len l := by
  have hl : len = l.length := by have := h.1; rw [List.length_map] at this; omega
  refine ⟨hl, ?_⟩
  rcases h.2 with ⟨e, hn⟩ | ⟨g, c, cur, hv, hg, hc, _, _, _, htk⟩
  · exact .inl (List.length_eq_zero_iff.1 (by omega))
  · injection hv with hv
    refine .inr ⟨g, 0, hv, ⟨(Array.getElem?_eq_some_iff.1 hc).1, fun i hi => ?_⟩⟩
    have h2 := congrArg (fun l => l[i]?) htk
    simp only [List.getElem?_take] at h2
    rw [if_pos (by omega), Array.getElem?_toList, List.getElem?_map, List.getElem?_eq_getElem hi] at h2
    simp only [World.cell?, hc, Nat.zero_add]
    exact h2
theorem strs_mk (N : List (List UInt8)) : strsV N = (N.map mkB).map Value.string := by simp [strsV, mkB]
end Go.Proofs.YtijfgfdagfchiaaGreatDoor.V
/- impl.guessValue, impl.ReadValue. -/
namespace Go.Proofs.YtijfgfdagfchiaaGreatDoor.V
open Go.RowKit
set_option maxRecDepth 20000

def VRet (v : ValT) (v1 v2 : Value) : Value := .agg #[.int .i64 v.k, .int .i64 v.a.x, .int .i64 v.a.n, .string v.a.t, .string v.a.y, v1, v2]
/-- A value's two rows, of its own. -/
structure VOwn (w : World) (base : Nat) (v : ValT) (v1 v2 : Value) : Prop where
  i : w.ownsRow base 23 4 v1 v.items.length (atomsV v.items)
  n : w.ownsRow base 9 1 v2 v.names.length (v.names.map Value.string)
  dj : ∀ g, v1.ownBlock = some g → v2.ownBlock ≠ some g
theorem VOwn.keep {w w' : World} {base : Nat} {v : ValT} {v1 v2 : Value} (h : VOwn w base v v1 v2) (hb : Below w.heap.size w w') : VOwn w' base v v1 v2 := ⟨own_keepT h.i hb, own_keepT h.n hb, h.dj⟩
theorem VOwn.nil (w : World) (base : Nat) (k : Int) (a : AtomT) : VOwn w base ⟨k, a, [], []⟩ (.slice none 0 0) (.slice none 0 0) := ⟨World.ownsRow_nil _ _ _ _, World.ownsRow_nil _ _ _ _, fun g h => by cases h⟩
theorem row_set7 {w : World} {b : Nat} {v1 v2 : Value} {k : Int} (h : RowIs w b (zV k v1 v2) 31) (u0 u1 u2 u3 u4 u5 u6 : Value) :
    RowIs (((((((w.setCell ⟨b, 0, none⟩ u0).setCell ⟨b, 1, none⟩ u1).setCell ⟨b, 2, none⟩ u2).setCell ⟨b, 3, none⟩ u3).setCell ⟨b, 4, none⟩ u4).setCell ⟨b, 5, none⟩ u5).setCell ⟨b, 6, none⟩ u6) b #[u0, u1, u2, u3, u4, u5, u6] 31 := by
  have h7 := ((((((h.set 0 u0).set 1 u1).set 2 u2).set 3 u3).set 4 u4).set 5 u5).set 6 u6
  have e : ((((((((zV k v1 v2).setIfInBounds 0 u0).setIfInBounds 1 u1).setIfInBounds 2 u2).setIfInBounds 3 u3).setIfInBounds 4 u4).setIfInBounds 5 u5).setIfInBounds 6 u6) = #[u0, u1, u2, u3, u4, u5, u6] := by
    apply Array.toList_inj.1
    simp [zV]
  rw [e] at h7
  exact h7
theorem pre_one (l : List UInt8) (c : UInt8) : Lib.hasPrefix l [c] = true ↔ ∃ r, l = c :: r := by
  unfold Lib.hasPrefix
  cases l with
  | nil => simp
  | cons d r => simp; exact eq_comm

set_option maxHeartbeats 2000000 in
theorem guessValue_any (s : ByteArray) (w : World) (hs : s.size ≤ 1048576) (hE : Env w) :
    Calls Tryz.prog 21 #[.string s] w fun e w' => (∃ v v1 v2, e = .returned (VRet v v1 v2) ∧ VOwn w' w.heap.size v v1 v2 ∧ Hid (GuessV s.data.toList v)) ∧ Below w.heap.size w w' := by
  have zl : s.data.toList.length = s.size := by simp
  have b0 := bAl (Below.refl w.heap.size w) (.cells (zV 0 (.slice none 0 0) (.slice none 0 0)) 31)
  have B0 := hide b0
  have R := hide (RowIs.new w (zV 0 (.slice none 0 0) (.slice none 0 0)) 31)
  have HE := hide (hE.keep b0)
  have sz0 : (w.alloc (.cells (zV 0 (.slice none 0 0) (.slice none 0 0)) 31)).heap.size = w.heap.size + 1 := by simp
  have q1 := hide (fun w => Tryz.strings_HasPrefix s ⟨#[91]⟩ w)
  have q2 := hide (fun w => Tryz.strings_HasPrefix s ⟨#[123]⟩ w)
  have p1 := hide (pre_one s.data.toList 91)
  have p2 := hide (pre_one s.data.toList 123)
  have e1 : (⟨#[91]⟩ : ByteArray).data.toList = [91] := rfl
  have e2 : (⟨#[123]⟩ : ByteArray).data.toList = [123] := rfl
  rw [e1] at q1
  rw [e2] at q2
  clear e1 e2 hE b0
  generalize Lib.hasPrefix s.data.toList [91] = P1 at q1 p1
  generalize Lib.hasPrefix s.data.toList [123] = P2 at q2 p2
  go_enter Tryz.func21, Tryz.ntmps21
  go_wp2_with fail
  refine (unhide q1 _).mono ?_
  rintro e w1 ⟨rfl, rfl⟩
  cases P1 with
  | true =>
    have ex := (unhide p1).1 rfl
    have HX := hide ex
    have zs : 1 ≤ s.size := by obtain ⟨r, hr⟩ := ex; rw [hr] at zl; simp at zl; omega
    have q3 := hide (fun w h => guessSet_any s w hs zs h)
    clear ex q1 q2 p1 p2
    go_wp2_with fail
    refine (unhide q3 _ (unhide HE)).mono ?_
    rintro e w2 ⟨⟨v1, I, rfl, hown, hfin⟩, hb2⟩
    have gu := hide (show GuessV s.data.toList ⟨2, zA, I, []⟩ by obtain ⟨R, h1, h2, h3⟩ := unhide hfin; exact set_fits h1 h2 h3 (unhide HX))
    have R2 := (unhide R).keep hb2
    have B2 := hide (bTr (unhide B0) hb2)
    rw [sz0] at hown
    have O2 := hide hown
    obtain ⟨a5, c5, e5⟩ := own_sl hown
    subst e5
    have d0 := (R2).at (o := 0) (v := .int .i64 0) rfl
    have d1 := (R2).at (o := 1) (v := .int .i64 0) rfl
    have d2 := (R2).at (o := 2) (v := .int .i64 0) rfl
    have d3 := (R2).at (o := 3) (v := .string ⟨#[]⟩) rfl
    have d4 := (R2).at (o := 4) (v := .string ⟨#[]⟩) rfl
    have d5 := (R2).at (o := 5) (v := .slice none 0 0) rfl
    have d6 := (R2).at (o := 6) (v := .slice none 0 0) rfl
    have f0 := (R2).froz 0
    have f1 := (R2).froz 1
    have f2 := (R2).froz 2
    have f3 := (R2).froz 3
    have f4 := (R2).froz 4
    have f5 := (R2).froz 5
    have f6 := (R2).froz 6
    clear R2 hb2 hown hfin q3
    go_wp2_with fail
    refine bodyPost_ret (v := VRet ⟨2, zA, I, []⟩ (.slice a5 I.length c5) (.slice none 0 0)) (by simp [results, Tryz.results21, go_sem, VRet, d0, d1, d2, d3, d4, d5, d6]) rfl ⟨⟨_, _, _, rfl, ⟨own_set7 (unhide O2) (by omega) (by omega), World.ownsRow_nil _ _ _ _, fun g _ h => by cases h⟩, gu⟩, below_set7 (unhide B2) (Nat.le_refl _)⟩
  | false =>
    clear q1
    go_wp2_with fail
    refine (unhide q2 _).mono ?_
    rintro e w1 ⟨rfl, rfl⟩
    cases P2 with
    | true =>
      have ex := (unhide p2).1 rfl
      have HX := hide ex
      have zs : 1 ≤ s.size := by obtain ⟨r, hr⟩ := ex; rw [hr] at zl; simp at zl; omega
      have q3 := hide (fun w h => guessRecord_any s w hs zs h)
      clear ex q2 p1 p2
      go_wp2_with fail
      refine (unhide q3 _ (unhide HE)).mono ?_
      rintro e w2 ⟨⟨v1, v2, I, N, rfl, hown, hownN, hdj, hfin⟩, hb2⟩
      have gu := hide (show GuessV s.data.toList ⟨3, zA, I, N.map mkB⟩ by obtain ⟨R, h1, h2, h3⟩ := unhide hfin; exact rec_fits (by omega) h1 h2 h3 (unhide HX))
      have R2 := (unhide R).keep hb2
      have B2 := hide (bTr (unhide B0) hb2)
      rw [sz0] at hown hownN
      have O2 := hide hown
      have N2 := hide hownN
      obtain ⟨a5, c5, e5⟩ := own_sl hown
      subst e5
      obtain ⟨a6, c6, e6⟩ := own_sl hownN
      subst e6
      have DJ := hide hdj
      have d0 := (R2).at (o := 0) (v := .int .i64 0) rfl
      have d1 := (R2).at (o := 1) (v := .int .i64 0) rfl
      have d2 := (R2).at (o := 2) (v := .int .i64 0) rfl
      have d3 := (R2).at (o := 3) (v := .string ⟨#[]⟩) rfl
      have d4 := (R2).at (o := 4) (v := .string ⟨#[]⟩) rfl
      have d5 := (R2).at (o := 5) (v := .slice none 0 0) rfl
      have d6 := (R2).at (o := 6) (v := .slice none 0 0) rfl
      have f0 := (R2).froz 0
      have f1 := (R2).froz 1
      have f2 := (R2).froz 2
      have f3 := (R2).froz 3
      have f4 := (R2).froz 4
      have f5 := (R2).froz 5
      have f6 := (R2).froz 6
      clear R2 hb2 hown hownN hfin q3 hdj
      go_wp2_with fail
      refine bodyPost_ret (v := VRet ⟨3, zA, I, N.map mkB⟩ (.slice a5 I.length c5) (.slice a6 N.length c6)) (by simp [results, Tryz.results21, go_sem, VRet, d0, d1, d2, d3, d4, d5, d6]) rfl ⟨⟨_, _, _, rfl, ⟨own_set7 (unhide O2) (by omega) (by omega), ?_, unhide DJ⟩, gu⟩, below_set7 (unhide B2) (Nat.le_refl _)⟩
      have := own_set7 (base' := w.heap.size) (b := w.heap.size) (u0 := .int .i64 3) (u1 := .int .i64 0) (u2 := .int .i64 0) (u3 := .string ⟨#[]⟩) (u4 := .string ⟨#[]⟩) (u5 := .slice a5 I.length c5) (u6 := .slice a6 N.length c6) (unhide N2) (by omega) (by omega)
      rw [strs_mk] at this
      simpa using this
    | false =>
      have hc := hide (show ∀ r, ¬ s.data.toList = 91 :: r ∧ ¬ s.data.toList = 123 :: r from fun r => ⟨(fun h => by have := (unhide p1).2 ⟨r, h⟩; cases this), (fun h => by have := (unhide p2).2 ⟨r, h⟩; cases this)⟩)
      have q3 := hide (fun w h => iReadAtom_any s w hs h)
      clear q2 p1 p2
      go_wp2_with fail
      refine (unhide q3 _ (unhide HE)).mono ?_
      rintro e w2 ⟨⟨x, n, t, y, ok, rfl, ha⟩, hb2⟩
      have gu := hide (atom_fits ha (unhide hc))
      have ba := bAl (Below.refl w2.heap.size w2) (.cells #[.int .i64 x, .int .i64 n, .string t, .string y] 23)
      have B2 := hide (bTr (unhide B0) hb2)
      have lt2 : w.heap.size < w2.heap.size := ((unhide R).keep hb2).lt
      have R2 := ((unhide R).keep hb2).keep ba
      have nab : ¬ w2.heap.size = w.heap.size := by omega
      have R1 := (unhide R).keep hb2
      have R1h := hide R1
      have d0 := (R1).at (o := 0) (v := .int .i64 0) rfl
      have d1 := (R1).at (o := 1) (v := .int .i64 0) rfl
      have d2 := (R1).at (o := 2) (v := .int .i64 0) rfl
      have d3 := (R1).at (o := 3) (v := .string ⟨#[]⟩) rfl
      have d4 := (R1).at (o := 4) (v := .string ⟨#[]⟩) rfl
      have d5 := (R1).at (o := 5) (v := .slice none 0 0) rfl
      have d6 := (R1).at (o := 6) (v := .slice none 0 0) rfl
      have f0 := (R1).froz 0
      have f1 := (R1).froz 1
      have f2 := (R1).froz 2
      have f3 := (R1).froz 3
      have f4 := (R1).froz 4
      have f5 := (R1).froz 5
      have f6 := (R1).froz 6
      have m0 := (R2).at (o := 0) (v := .int .i64 0) rfl
      have m1 := (R2).at (o := 1) (v := .int .i64 0) rfl
      have m2 := (R2).at (o := 2) (v := .int .i64 0) rfl
      have m3 := (R2).at (o := 3) (v := .string ⟨#[]⟩) rfl
      have m4 := (R2).at (o := 4) (v := .string ⟨#[]⟩) rfl
      have m5 := (R2).at (o := 5) (v := .slice none 0 0) rfl
      have m6 := (R2).at (o := 6) (v := .slice none 0 0) rfl
      have l0 := (R2).froz 0
      have l1 := (R2).froz 1
      have l2 := (R2).froz 2
      have l3 := (R2).froz 3
      have l4 := (R2).froz 4
      have l5 := (R2).froz 5
      have l6 := (R2).froz 6
      clear R2 R1 hb2 q3 ba ha
      go_wp2_with fail
      have RF := (row_set7 (unhide R1h) (.int .i64 1) (.int .i64 x) (.int .i64 n) (.string t) (.string y) (.slice none 0 0) (.slice none 0 0)).keep (bAl (Below.refl _ _) (.cells #[.int .i64 x, .int .i64 n, .string t, .string y] 23))
      have u0 := RF.at (o := 0) (v := .int .i64 1) rfl
      have u1 := RF.at (o := 1) (v := .int .i64 x) rfl
      have u2 := RF.at (o := 2) (v := .int .i64 n) rfl
      have u3 := RF.at (o := 3) (v := .string t) rfl
      have u4 := RF.at (o := 4) (v := .string y) rfl
      have u5 := RF.at (o := 5) (v := .slice none 0 0) rfl
      have u6 := RF.at (o := 6) (v := .slice none 0 0) rfl
      refine bodyPost_ret (v := VRet ⟨1, ⟨x, n, t, y⟩, [], []⟩ (.slice none 0 0) (.slice none 0 0)) (by simp [results, Tryz.results21, go_sem, VRet, u0, u1, u2, u3, u4, u5, u6]) rfl ⟨⟨_, _, _, rfl, VOwn.nil _ _ _ _, gu⟩, bAl (below_set7 (unhide B2) (Nat.le_refl _)) _⟩
end Go.Proofs.YtijfgfdagfchiaaGreatDoor.V
/- impl.ReadValue. -/
namespace Go.Proofs.YtijfgfdagfchiaaGreatDoor.V
open Go.RowKit
set_option maxRecDepth 20000

abbrev zVal : ValT := ⟨0, zA, [], []⟩
structure VIs (l : List UInt8) (v : ValT) (ok : Bool) : Prop where
  yes : ok = true → GoodVal v ∧ valL v = l ∧ v.Ok
  all : ∀ v' : ValT, v'.Ok → GoodVal v' → valL v' = l → ok = true ∧ v = v'
  zero : ok = false → v = zVal
theorem VIs.uniq {l : List UInt8} {v v' : ValT} {ok ok' : Bool} (h : VIs l v ok) (g : VIs l v' ok') : ok = ok' ∧ v = v' := by
  cases ok with
  | true =>
    obtain ⟨a, b, c⟩ := h.yes rfl
    obtain ⟨d, e⟩ := g.all _ c a b
    exact ⟨d.symm, e.symm⟩
  | false =>
    cases ok' with
    | true =>
      obtain ⟨a, b, c⟩ := g.yes rfl
      have := (h.all _ c a b).1
      cases this
    | false => exact ⟨rfl, (h.zero rfl).trans (g.zero rfl).symm⟩
theorem v_no {l : List UInt8} (h : ∀ v' : ValT, v'.Ok → GoodVal v' → ¬ valL v' = l) : VIs l zVal false := ⟨fun h => (by cases h), fun v' a b e => absurd e (h v' a b), fun _ => rfl⟩
def VRdRet (l : List UInt8) (base : Nat) (e : Ending) (w' : World) : Prop := ∃ v v1 v2 ok, e = .returned (.tuple #[VRet v v1 v2, .bool ok]) ∧ VOwn w' base v v1 v2 ∧ Hid (VIs l v ok)
theorem zval_own (w : World) (base : Nat) : VOwn w base zVal (.slice none 0 0) (.slice none 0 0) := VOwn.nil w base 0 zA
theorem VOwn.set7 {w : World} {base base' b : Nat} {v : ValT} {v1 v2 u0 u1 u2 u3 u4 u5 u6 : Value} (h : VOwn w base v v1 v2) (hb : base' ≤ base) (hne : b < base) :
    VOwn (((((((w.setCell ⟨b, 0, none⟩ u0).setCell ⟨b, 1, none⟩ u1).setCell ⟨b, 2, none⟩ u2).setCell ⟨b, 3, none⟩ u3).setCell ⟨b, 4, none⟩ u4).setCell ⟨b, 5, none⟩ u5).setCell ⟨b, 6, none⟩ u6) base' v v1 v2 :=
  ⟨own_set7 h.i hb hne, own_set7 h.n hb hne, h.dj⟩

set_option maxHeartbeats 4000000 in
theorem iReadValue_any (s : ByteArray) (w : World) (hs : s.size ≤ 1048576) (hE : Env w) :
    Calls Tryz.prog 9 #[.string s] w fun e w' => VRdRet s.data.toList w.heap.size e w' ∧ Below w.heap.size w w' := by
  have b0 := bAl (Below.refl w.heap.size w) (.cells (zV 0 (.slice none 0 0) (.slice none 0 0)) 31)
  have B0 := hide b0
  have R := hide (RowIs.new w (zV 0 (.slice none 0 0) (.slice none 0 0)) 31)
  have HE := hide (hE.keep b0)
  have sz0 : (w.alloc (.cells (zV 0 (.slice none 0 0) (.slice none 0 0)) 31)).heap.size = w.heap.size + 1 := by simp
  have q1 := hide (guessValue_any s _ hs (unhide HE))
  clear hE b0
  go_enter Tryz.func9, Tryz.ntmps9
  go_wp2_with fail
  refine (unhide q1).mono ?_
  rintro e w1 ⟨⟨v, v1, v2, rfl, hown, hgu⟩, hb1⟩
  rw [sz0] at hown
  obtain ⟨a1, c1, e1⟩ := own_sl hown.i
  subst e1
  obtain ⟨a2, c2, e2⟩ := own_sl hown.n
  subst e2
  have OW := hide hown
  have hok := (unhide hgu).ok
  have lt1 : w.heap.size < w1.heap.size := ((unhide R).keep hb1).lt
  have ba := bAl (Below.refl w1.heap.size w1) (.cells #[.int .i64 v.k, .int .i64 v.a.x, .int .i64 v.a.n, .string v.a.t, .string v.a.y, .slice a1 v.items.length c1, .slice a2 v.names.length c2] 31)
  replace R := hide (((unhide R).keep hb1).keep ba)
  have RV := hide (RowIs.new w1 #[.int .i64 v.k, .int .i64 v.a.x, .int .i64 v.a.n, .string v.a.t, .string v.a.y, .slice a1 v.items.length c1, .slice a2 v.names.length c2] 31)
  have OW2 := hide ((unhide OW).keep ba)
  have B2 := hide (bTr (bTr (unhide B0) hb1) ba)
  replace HE := hide (((unhide HE).keep hb1).keep ba)
  have li : v.items.length ≤ maxLen := by
    rcases hown.i.2 with ⟨_, h⟩ | ⟨_, _, _, _, _, _, h3, h4, _⟩
    · rw [h]; unfold maxLen; omega
    · omega
  have q2 := hide (iGoodValue_any v hok a1 a2 v.items.length c1 v.names.length c2 _ li (sla_own (unhide OW2).i) (sls_own (unhide OW2).n))
  have HOK := hide hok
  have LI := hide li
  have nab : ¬ w1.heap.size = w.heap.size := by omega
  clear hown hb1 ba q1 B0 OW hok li
  unfold VRet
  go_wp2_with fail
  refine (unhide q2).mono ?_
  rintro e w2 ⟨hret, hb2⟩
  replace R := hide ((unhide R).keep hb2)
  replace RV := hide ((unhide RV).keep hb2)
  replace OW2 := hide ((unhide OW2).keep hb2)
  replace HE := hide ((unhide HE).keep hb2)
  have B3 := hide (bTr (unhide B2) hb2)
  have lt2 : w1.heap.size < w2.heap.size := (unhide RV).lt
  clear hb2 q2 B2
  obtain ⟨bg, rfl, hbg⟩ := hret
  cases bg with
  | false =>
    have ai := hide (v_no (l := s.data.toList) (fun v' a b e => by
      have := (unhide hgu).fit v' a b e
      subst this
      have := hbg.2 b
      cases this))
    clear hbg
    have d0 := (unhide R).at (o := 0) (v := .int .i64 0) rfl
    have d1 := (unhide R).at (o := 1) (v := .int .i64 0) rfl
    have d2 := (unhide R).at (o := 2) (v := .int .i64 0) rfl
    have d3 := (unhide R).at (o := 3) (v := .string ⟨#[]⟩) rfl
    have d4 := (unhide R).at (o := 4) (v := .string ⟨#[]⟩) rfl
    have d5 := (unhide R).at (o := 5) (v := .slice none 0 0) rfl
    have d6 := (unhide R).at (o := 6) (v := .slice none 0 0) rfl
    have f0 := (unhide R).froz 0
    have f1 := (unhide R).froz 1
    have f2 := (unhide R).froz 2
    have f3 := (unhide R).froz 3
    have f4 := (unhide R).froz 4
    have f5 := (unhide R).froz 5
    have f6 := (unhide R).froz 6
    go_wp2_with fail
    refine bodyPost_ret (v := .tuple #[VRet zVal (.slice none 0 0) (.slice none 0 0), .bool false]) (by simp [results, Tryz.results9, go_sem, VRet, d0, d1, d2, d3, d4, d5, d6]) rfl ⟨⟨_, _, _, _, rfl, zval_own _ _, ai⟩, ?_⟩
    exact below_set7 (unhide B3) (Nat.le_refl _)
  | true =>
    have hgood := hbg.1 rfl
    have HG := hide hgood
    have q3 := hide (iValueText_yes v (unhide HOK) a1 a2 v.items.length c1 v.names.length c2 w2 (unhide LI) (unhide HE).tab (sla_own (unhide OW2).i) (sls_own (unhide OW2).n) hgood)
    have HX := hide (show (⟨(valL v).toArray⟩ : ByteArray) = s ↔ valL v = s.data.toList from ⟨fun h => by rw [← h], fun h => by rw [h, mk_list]⟩)
    generalize (⟨(valL v).toArray⟩ : ByteArray) = X at q3 HX
    clear hbg hgood
    have v0 := (unhide RV).at (o := 0) (v := .int .i64 v.k) rfl
    have v1 := (unhide RV).at (o := 1) (v := .int .i64 v.a.x) rfl
    have v2 := (unhide RV).at (o := 2) (v := .int .i64 v.a.n) rfl
    have v3 := (unhide RV).at (o := 3) (v := .string v.a.t) rfl
    have v4 := (unhide RV).at (o := 4) (v := .string v.a.y) rfl
    have v5 := (unhide RV).at (o := 5) (v := .slice a1 v.items.length c1) rfl
    have v6 := (unhide RV).at (o := 6) (v := .slice a2 v.names.length c2) rfl
    go_wp2_with fail
    refine (unhide q3).mono ?_
    rintro e w3 ⟨rfl, hb3⟩
    replace R := hide ((unhide R).keep hb3)
    replace RV := hide ((unhide RV).keep hb3)
    replace OW2 := hide ((unhide OW2).keep hb3)
    have B4 := hide (bTr (unhide B3) hb3)
    clear hb3 q3 B3 v0 v1 v2 v3 v4 v5 v6
    by_cases hx : X = s
    · have ai := hide (show VIs s.data.toList v true from ⟨fun _ => ⟨unhide HG, (unhide HX).1 hx, unhide HOK⟩, fun v' a b e => ⟨rfl, (unhide hgu).fit v' a b e⟩, fun h => (by cases h)⟩)
      have hx2 : (X.toList == s.toList) = true := by rw [hx]; simp
      clear hx
      have d0 := (unhide R).at (o := 0) (v := .int .i64 0) rfl
      have d1 := (unhide R).at (o := 1) (v := .int .i64 0) rfl
      have d2 := (unhide R).at (o := 2) (v := .int .i64 0) rfl
      have d3 := (unhide R).at (o := 3) (v := .string ⟨#[]⟩) rfl
      have d4 := (unhide R).at (o := 4) (v := .string ⟨#[]⟩) rfl
      have d5 := (unhide R).at (o := 5) (v := .slice none 0 0) rfl
      have d6 := (unhide R).at (o := 6) (v := .slice none 0 0) rfl
      have f0 := (unhide R).froz 0
      have f1 := (unhide R).froz 1
      have f2 := (unhide R).froz 2
      have f3 := (unhide R).froz 3
      have f4 := (unhide R).froz 4
      have f5 := (unhide R).froz 5
      have f6 := (unhide R).froz 6
      have v0 := (unhide RV).at (o := 0) (v := .int .i64 v.k) rfl
      have v1 := (unhide RV).at (o := 1) (v := .int .i64 v.a.x) rfl
      have v2 := (unhide RV).at (o := 2) (v := .int .i64 v.a.n) rfl
      have v3 := (unhide RV).at (o := 3) (v := .string v.a.t) rfl
      have v4 := (unhide RV).at (o := 4) (v := .string v.a.y) rfl
      have v5 := (unhide RV).at (o := 5) (v := .slice a1 v.items.length c1) rfl
      have v6 := (unhide RV).at (o := 6) (v := .slice a2 v.names.length c2) rfl
      go_wp2_with fail
      refine bodyPost_ret (v := .tuple #[VRet v (.slice a1 v.items.length c1) (.slice a2 v.names.length c2), .bool true]) (by simp [results, Tryz.results9, go_sem, VRet, d0, d1, d2, d3, d4, d5, d6]) rfl ⟨⟨_, _, _, _, rfl, ?_, ai⟩, below_set7 (unhide B4) (Nat.le_refl _)⟩
      exact (unhide OW2).set7 (by omega) (by omega)
    · have ai := hide (v_no (l := s.data.toList) (fun v' a b e => by
        have := (unhide hgu).fit v' a b e
        subst this
        exact hx ((unhide HX).2 e)))
      have hx2 : (X.toList == s.toList) = false := by simpa using str_neq hx
      clear hx
      have d0 := (unhide R).at (o := 0) (v := .int .i64 0) rfl
      have d1 := (unhide R).at (o := 1) (v := .int .i64 0) rfl
      have d2 := (unhide R).at (o := 2) (v := .int .i64 0) rfl
      have d3 := (unhide R).at (o := 3) (v := .string ⟨#[]⟩) rfl
      have d4 := (unhide R).at (o := 4) (v := .string ⟨#[]⟩) rfl
      have d5 := (unhide R).at (o := 5) (v := .slice none 0 0) rfl
      have d6 := (unhide R).at (o := 6) (v := .slice none 0 0) rfl
      have f0 := (unhide R).froz 0
      have f1 := (unhide R).froz 1
      have f2 := (unhide R).froz 2
      have f3 := (unhide R).froz 3
      have f4 := (unhide R).froz 4
      have f5 := (unhide R).froz 5
      have f6 := (unhide R).froz 6
      go_wp2_with fail
      refine bodyPost_ret (v := .tuple #[VRet zVal (.slice none 0 0) (.slice none 0 0), .bool false]) (by simp [results, Tryz.results9, go_sem, VRet, d0, d1, d2, d3, d4, d5, d6]) rfl ⟨⟨_, _, _, _, rfl, zval_own _ _, ai⟩, ?_⟩
      exact below_set7 (unhide B4) (Nat.le_refl _)
end Go.Proofs.YtijfgfdagfchiaaGreatDoor.V
