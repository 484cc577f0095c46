/- YTok, YPur, one behind the other. -/
import Derived.Test.YteaidfighimoiaaGreatJ3
import Derived.OwnWalk
import Derived.WalkSpells
import Derived.Test.YteaidfighimoiaaGreatJ7
/- Patterns: what they are made of, by spec.l1Tokens and impl.patternParts; ported from seat 1a. -/
namespace Go.Proofs.YteaidfighimoiaaGreat.V
open Go.RowKit

/-- A token: none for a star, else the byte that is asked for. -/
def toks : List UInt8 → Option (List (Option UInt8))
  | [] => some []
  | [c] => if c = 42 then some [none] else if c = 92 then none else some [some c]
  | c :: d :: r =>
    if c = 42 then (toks (d :: r)).map (none :: ·)
    else if c = 92 then (if d = 42 ∨ d = 92 then (toks r).map (some d :: ·) else none)
    else (toks (d :: r)).map (some c :: ·)

theorem toks_star (r : List UInt8) : toks (42 :: r) = (toks r).map (none :: ·) := by
  cases r with
  | nil => rfl
  | cons d r => simp [toks]
theorem toks_own {c : UInt8} (h1 : ¬ c = 42) (h2 : ¬ c = 92) (r : List UInt8) : toks (c :: r) = (toks r).map (some c :: ·) := by
  cases r with
  | nil => simp [toks, h1, h2]
  | cons d r => simp [toks, h1, h2]
theorem toks_bad_end : toks [92] = none := rfl
theorem toks_bad {d : UInt8} (h1 : ¬ d = 42) (h2 : ¬ d = 92) (r : List UInt8) : toks (92 :: d :: r) = none := by
  simp [toks, h1, h2]
theorem toks_esc {d : UInt8} (h : d = 42 ∨ d = 92) (r : List UInt8) : toks (92 :: d :: r) = (toks r).map (some d :: ·) := by
  simp [toks, h]

/-- What is told of a pattern when the tokens pre are made and l is left. -/
def LeftOf (p : List UInt8) (pre : List (Option UInt8)) (l : List UInt8) : Prop := toks p = (toks l).map (pre ++ ·)
theorem LeftOf.start (p : List UInt8) : LeftOf p [] p := by
  unfold LeftOf
  cases toks p <;> simp
theorem LeftOf.step {p : List UInt8} {pre : List (Option UInt8)} {l r : List UInt8} {t : Option UInt8} (h : LeftOf p pre l) (e : toks l = (toks r).map (t :: ·)) : LeftOf p (pre ++ [t]) r := by
  unfold LeftOf at *
  rw [h, e]
  cases toks r <;> simp
theorem LeftOf.no {p : List UInt8} {pre : List (Option UInt8)} {l : List UInt8} (h : LeftOf p pre l) (e : toks l = none) : toks p = none := by
  unfold LeftOf at h; rw [h, e]; rfl
theorem LeftOf.done {p : List UInt8} {pre : List (Option UInt8)} (h : LeftOf p pre []) : toks p = some pre := by
  unfold LeftOf at h; rw [h]; simp [toks]


def tokI : Option UInt8 → Int
  | none => 256
  | some c => c.toNat
def tokV (t : Option UInt8) : Value := .int .i64 (tokI t)
/-- How a reader of patterns ends. -/
def TokEnd (p : List UInt8) (e : Ending) (own : Value → List (Option UInt8) → Prop) : Prop :=
  (toks p = none ∧ e = .returned (.tuple #[.slice none 0 0, .bool false])) ∨ ∃ ts v, toks p = some ts ∧ e = .returned (.tuple #[v, .bool true]) ∧ own v ts

theorem info_int : (Tryz.prog.info? 3).map (fun i => (i.zero, i.size, i.bytes)) = some (some (.int .i64 0), 1, 8) := by kernel_rfl

theorem own_snoc {w' : World} {base : Nat} {v' : Value} {pre : List (Option UInt8)} {t : Option UInt8} (h : w'.ownsRow base 3 1 v' (pre.length + 1) (pre.map tokV ++ [tokV t])) : w'.ownsRow base 3 1 v' (pre ++ [t]).length ((pre ++ [t]).map tokV) := by
  simpa using h

theorem u8_eqT {a : UInt8} {n : Nat} (h : (a.toNat : Int) = (n : Int)) (hn : n < 256 := by omega) : a = UInt8.ofNat n := by
  apply UInt8.toNat_inj.1; simp; omega

theorem wrap_byte (b : UInt8) : wrap64 (b.toNat : Int) = (b.toNat : Int) := by
  have := b.toNat_lt
  simp only [wrap64]; omega

theorem drop_at (s : ByteArray) (k : Nat) (h : k < s.size) : s.data.toList.drop k = s[k] :: s.data.toList.drop (k + 1) := by
  rw [List.drop_eq_getElem_cons (by simpa using h)]; rfl

set_option maxHeartbeats 1000000 in
theorem l1Tokens_any (s : ByteArray) (hs : s.size ≤ 1048576) (w : World) :
    Calls Tryz.prog 51 #[.string s] w fun e w' => TokEnd s.data.toList e (fun v ts => w'.ownsRow w.heap.size 3 1 v ts.length (ts.map tokV)) ∧ Below w.heap.size w w' := by
  obtain ⟨i0, hi, hz0, hz1, hz2⟩ := info_parts info_int
  go_enter Tryz.func51, Tryz.ntmps51
  go_wp2
  go_loopw [4, 5] (fun v i w' => ∃ (k : Nat) (pre : List (Option UInt8)), k ≤ s.size ∧ pre.length ≤ k ∧ i = .int .i64 k ∧ Hid (w'.ownsRow w.heap.size 3 1 v pre.length (pre.map tokV)) ∧ Hid (Below w.heap.size w w') ∧ Hid (LeftOf s.data.toList pre (s.data.toList.drop k))) (fun _ i _ => s.size - (intOf i).toNat)
  case atStart => exact ⟨0, [], Nat.zero_le _, Nat.zero_le _, rfl, hide (World.ownsRow_nil _ _ _ _), hide (Below.refl _ _), hide (LeftOf.start _)⟩
  case round =>
    obtain ⟨k, pre, hk, hpre, rfl, hown, hb, hl⟩ := hrel
    by_cases hlt : k < s.size
    · have ed := hide (drop_at s k hlt)
      cases c1 : ((s[k].toNat : Int) == 42)
      · cases c2 : ((s[k].toNat : Int) == 92)
        · have n1 : ¬ s[k] = 42 := fun h => by rw [h] at c1; simp at c1
          have n2 : ¬ s[k] = 92 := fun h => by rw [h] at c2; simp at c2
          have st := hide ((unhide hl).step (t := some s[k]) (by rw [unhide ed]; exact toks_own n1 n2 _))
          clear n1 n2
          go_wp2_with (at_builtin; refine wpList_append_own _ rfl _ _ 105 rfl w.heap.size 3 i0 (.int .i64 0) 1 8 Tryz.underlying105 hi hz0 hz1 hz2 rfl (by decide) _ _ _ rfl ((unhide hown).alloc _) ⟨wr.heap.size, 0, none⟩ 1 1 [_] rfl rfl (cell_one_new _ _ _) (fun x hx => by simp at hx; subst hx; rfl) (by unfold maxLen; omega) (by omega) (by have := (unhide hb).size; simp; omega) ?_; intro v' w1 hown1 hgrow1 _)
          rw [wrap_byte] at hown1
          exact ⟨⟨k + 1, pre ++ [some s[k]], by omega, by simp; omega, by go_num, hide (own_snoc hown1), hide ((bAl (unhide hb) _).grown hgrow1 (by have := (unhide hb).size; simp; omega) (fun j hj => ((unhide hown).lt j hj).1)), st⟩, by simp [intOf]; omega⟩
        · have he : s[k] = 92 := u8_eqT (n := 92) (by simpa using c2)
          have HE := hide he
          clear he
          by_cases hk1 : k + 1 < s.size
          · have ed1 := hide (drop_at s (k + 1) hk1)
            have dk : ((k : Int) + 1 == (s.size : Int)) = false := by simp; omega
            obtain ⟨c, hc⟩ : ∃ c, s[k + 1] = c := ⟨_, rfl⟩
            rw [hc] at ed1
            cases d1 : ((c.toNat : Int) != 42) <;> cases d2 : ((c.toNat : Int) != 92)
            · have h1 : c = 42 := u8_eqT (n := 42) (by simpa using d1)
              have h2 : c = 92 := u8_eqT (n := 92) (by simpa using d2)
              rw [h1] at h2
              exact absurd h2 (by decide)
            · have h1 : c = 42 := u8_eqT (n := 42) (by simpa using d1)
              have st := hide ((unhide hl).step (t := some c) (by rw [unhide ed, unhide HE, unhide ed1]; exact toks_esc (.inl h1) _))
              clear h1
              go_wp2_with (at_builtin; refine wpList_append_own _ rfl _ _ 105 rfl w.heap.size 3 i0 (.int .i64 0) 1 8 Tryz.underlying105 hi hz0 hz1 hz2 rfl (by decide) _ _ _ rfl ((unhide hown).alloc _) ⟨wr.heap.size, 0, none⟩ 1 1 [_] rfl rfl (cell_one_new _ _ _) (fun x hx => by simp at hx; subst hx; rfl) (by unfold maxLen; omega) (by omega) (by have := (unhide hb).size; simp; omega) ?_; intro v' w1 hown1 hgrow1 _)
              rw [wrap_byte] at hown1
              exact ⟨⟨k + 2, pre ++ [some c], by omega, by simp; omega, by go_num, hide (own_snoc hown1), hide ((bAl (unhide hb) _).grown hgrow1 (by have := (unhide hb).size; simp; omega) (fun j hj => ((unhide hown).lt j hj).1)), st⟩, by simp [intOf]; omega⟩
            · have h1 : c = 92 := u8_eqT (n := 92) (by simpa using d2)
              have st := hide ((unhide hl).step (t := some c) (by rw [unhide ed, unhide HE, unhide ed1]; exact toks_esc (.inr h1) _))
              clear h1
              go_wp2_with (at_builtin; refine wpList_append_own _ rfl _ _ 105 rfl w.heap.size 3 i0 (.int .i64 0) 1 8 Tryz.underlying105 hi hz0 hz1 hz2 rfl (by decide) _ _ _ rfl ((unhide hown).alloc _) ⟨wr.heap.size, 0, none⟩ 1 1 [_] rfl rfl (cell_one_new _ _ _) (fun x hx => by simp at hx; subst hx; rfl) (by unfold maxLen; omega) (by omega) (by have := (unhide hb).size; simp; omega) ?_; intro v' w1 hown1 hgrow1 _)
              rw [wrap_byte] at hown1
              exact ⟨⟨k + 2, pre ++ [some c], by omega, by simp; omega, by go_num, hide (own_snoc hown1), hide ((bAl (unhide hb) _).grown hgrow1 (by have := (unhide hb).size; simp; omega) (fun j hj => ((unhide hown).lt j hj).1)), st⟩, by simp [intOf]; omega⟩
            · have h1 : ¬ c = 42 := fun h => by rw [h] at d1; simp at d1
              have h2 : ¬ c = 92 := fun h => by rw [h] at d2; simp at d2
              have hn := hide ((unhide hl).no (by rw [unhide ed, unhide HE, unhide ed1]; exact toks_bad h1 h2 _))
              clear h1 h2
              go_wp2_with fail
              go_ret2
              exact ⟨.inl ⟨unhide hn, rfl⟩, unhide hb⟩
          · have dk : ((k : Int) + 1 == (s.size : Int)) = true := by simp; omega
            have hn := hide ((unhide hl).no (by rw [unhide ed, unhide HE, List.drop_of_length_le (by simp; omega)]; exact toks_bad_end))
            go_wp2_with fail
            go_ret2
            exact ⟨.inl ⟨unhide hn, rfl⟩, unhide hb⟩
      · have he : s[k] = 42 := u8_eqT (n := 42) (by simpa using c1)
        have st := hide ((unhide hl).step (t := none) (by rw [unhide ed, he]; exact toks_star _))
        clear he
        go_wp2_with (at_builtin; refine wpList_append_own _ rfl _ _ 105 rfl w.heap.size 3 i0 (.int .i64 0) 1 8 Tryz.underlying105 hi hz0 hz1 hz2 rfl (by decide) _ _ _ rfl ((unhide hown).alloc _) ⟨wr.heap.size, 0, none⟩ 1 1 [.int .i64 256] rfl rfl (cell_one_new _ _ _) (fun x hx => by simp at hx; subst hx; rfl) (by unfold maxLen; omega) (by omega) (by have := (unhide hb).size; simp; omega) ?_; intro v' w1 hown1 hgrow1 _)
        exact ⟨⟨k + 1, pre ++ [none], by omega, by simp; omega, by go_num, hide (own_snoc hown1), hide ((bAl (unhide hb) _).grown hgrow1 (by have := (unhide hb).size; simp; omega) (fun j hj => ((unhide hown).lt j hj).1)), st⟩, by simp [intOf]; omega⟩
    · have e : k = s.size := by omega
      have hd : Hid (toks s.data.toList = some pre) := hide (by
        have := unhide hl
        rw [e, List.drop_of_length_le (by simp)] at this
        exact this.done)
      clear e
      go_wp2_with fail
      go_ret2
      exact ⟨.inr ⟨pre, _, unhide hd, rfl, unhide hown⟩, unhide hb⟩

def partV : Option UInt8 → List Value
  | none => [.bool true, .int .u8 0]
  | some c => [.bool false, .int .u8 c.toNat]
theorem info_part : (Tryz.prog.info? 132).map (fun i => (i.zero, i.size, i.bytes)) = some (some (.agg #[.bool false, .int .u8 0]), 2, 2) := by kernel_rfl
theorem own_snocP {w' : World} {base : Nat} {v' : Value} {pre : List (Option UInt8)} {t : Option UInt8} (h : w'.ownsRow base 132 2 v' (pre.length + 1) (pre.flatMap partV ++ partV t)) : w'.ownsRow base 132 2 v' (pre ++ [t]).length ((pre ++ [t]).flatMap partV) := by
  simpa using h

set_option maxHeartbeats 1000000 in
theorem patternParts_any (s : ByteArray) (hs : s.size ≤ 200) (w : World) :
    Calls Tryz.prog 76 #[.string s] w fun e w' => TokEnd s.data.toList e (fun v ts => w'.ownsRow w.heap.size 132 2 v ts.length (ts.flatMap partV)) ∧ Below w.heap.size w w' := by
  obtain ⟨i0, hi, hz0, hz1, hz2⟩ := info_parts info_part
  go_enter Tryz.func76, Tryz.ntmps76
  go_wp2
  go_loopw [4, 5] (fun v i w' => ∃ (k : Nat) (pre : List (Option UInt8)), k ≤ s.size ∧ pre.length ≤ k ∧ i = .int .i64 k ∧ Hid (w'.ownsRow w.heap.size 132 2 v pre.length (pre.flatMap partV)) ∧ Hid (Below w.heap.size w w') ∧ Hid (LeftOf s.data.toList pre (s.data.toList.drop k))) (fun _ i _ => s.size - (intOf i).toNat)
  case atStart => exact ⟨0, [], Nat.zero_le _, Nat.zero_le _, rfl, hide (World.ownsRow_nil _ _ _ _), hide (Below.refl _ _), hide (LeftOf.start _)⟩
  case round =>
    obtain ⟨k, pre, hk, hpre, rfl, hown, hb, hl⟩ := hrel
    by_cases hlt : k < s.size
    · have ed := hide (drop_at s k hlt)
      cases c1 : ((s[k].toNat : Int) == 42)
      · cases c2 : ((s[k].toNat : Int) == 92)
        · have n1 : ¬ s[k] = 42 := fun h => by rw [h] at c1; simp at c1
          have n2 : ¬ s[k] = 92 := fun h => by rw [h] at c2; simp at c2
          have st := hide ((unhide hl).step (t := some s[k]) (by rw [unhide ed]; exact toks_own n1 n2 _))
          clear n1 n2
          go_wp2_with (at_builtin; refine wpList_append_own _ rfl _ _ 127 rfl w.heap.size 132 i0 (.agg #[.bool false, .int .u8 0]) 2 2 Tryz.underlying127 hi hz0 hz1 hz2 rfl (by decide) _ _ _ rfl ((unhide hown).alloc _) ⟨wr.heap.size, 0, none⟩ 1 1 [_, _] rfl rfl (cell_two_new _ _ _ _) (by intro u hu; simp at hu; rcases hu with rfl | rfl <;> rfl) (by unfold maxLen; omega) (by omega) (by have := (unhide hb).size; simp; omega) ?_; intro v' w1 hown1 hgrow1 _)
          exact ⟨⟨k + 1, pre ++ [some s[k]], by omega, by simp; omega, by go_num, hide (own_snocP hown1), hide ((bAl (unhide hb) _).grown hgrow1 (by have := (unhide hb).size; simp; omega) (fun j hj => ((unhide hown).lt j hj).1)), st⟩, by simp [intOf]; omega⟩
        · have he : s[k] = 92 := u8_eqT (n := 92) (by simpa using c2)
          have HE := hide he
          clear he
          by_cases hk1 : k + 1 < s.size
          · have ed1 := hide (drop_at s (k + 1) hk1)
            have dk : ((k : Int) + 1 == (s.size : Int)) = false := by simp; omega
            obtain ⟨c, hc⟩ : ∃ c, s[k + 1] = c := ⟨_, rfl⟩
            rw [hc] at ed1
            cases d1 : ((c.toNat : Int) != 42) <;> cases d2 : ((c.toNat : Int) != 92)
            · have h1 : c = 42 := u8_eqT (n := 42) (by simpa using d1)
              have h2 : c = 92 := u8_eqT (n := 92) (by simpa using d2)
              rw [h1] at h2
              exact absurd h2 (by decide)
            · have h1 : c = 42 := u8_eqT (n := 42) (by simpa using d1)
              have st := hide ((unhide hl).step (t := some c) (by rw [unhide ed, unhide HE, unhide ed1]; exact toks_esc (.inl h1) _))
              clear h1
              go_wp2_with (at_builtin; refine wpList_append_own _ rfl _ _ 127 rfl w.heap.size 132 i0 (.agg #[.bool false, .int .u8 0]) 2 2 Tryz.underlying127 hi hz0 hz1 hz2 rfl (by decide) _ _ _ rfl ((unhide hown).alloc _) ⟨wr.heap.size, 0, none⟩ 1 1 [_, _] rfl rfl (cell_two_new _ _ _ _) (by intro u hu; simp at hu; rcases hu with rfl | rfl <;> rfl) (by unfold maxLen; omega) (by omega) (by have := (unhide hb).size; simp; omega) ?_; intro v' w1 hown1 hgrow1 _)
              exact ⟨⟨k + 2, pre ++ [some c], by omega, by simp; omega, by go_num, hide (own_snocP hown1), hide ((bAl (unhide hb) _).grown hgrow1 (by have := (unhide hb).size; simp; omega) (fun j hj => ((unhide hown).lt j hj).1)), st⟩, by simp [intOf]; omega⟩
            · have h1 : c = 92 := u8_eqT (n := 92) (by simpa using d2)
              have st := hide ((unhide hl).step (t := some c) (by rw [unhide ed, unhide HE, unhide ed1]; exact toks_esc (.inr h1) _))
              clear h1
              go_wp2_with (at_builtin; refine wpList_append_own _ rfl _ _ 127 rfl w.heap.size 132 i0 (.agg #[.bool false, .int .u8 0]) 2 2 Tryz.underlying127 hi hz0 hz1 hz2 rfl (by decide) _ _ _ rfl ((unhide hown).alloc _) ⟨wr.heap.size, 0, none⟩ 1 1 [_, _] rfl rfl (cell_two_new _ _ _ _) (by intro u hu; simp at hu; rcases hu with rfl | rfl <;> rfl) (by unfold maxLen; omega) (by omega) (by have := (unhide hb).size; simp; omega) ?_; intro v' w1 hown1 hgrow1 _)
              exact ⟨⟨k + 2, pre ++ [some c], by omega, by simp; omega, by go_num, hide (own_snocP hown1), hide ((bAl (unhide hb) _).grown hgrow1 (by have := (unhide hb).size; simp; omega) (fun j hj => ((unhide hown).lt j hj).1)), st⟩, by simp [intOf]; omega⟩
            · have h1 : ¬ c = 42 := fun h => by rw [h] at d1; simp at d1
              have h2 : ¬ c = 92 := fun h => by rw [h] at d2; simp at d2
              have hn := hide ((unhide hl).no (by rw [unhide ed, unhide HE, unhide ed1]; exact toks_bad h1 h2 _))
              clear h1 h2
              go_wp2_with fail
              go_ret2
              exact ⟨.inl ⟨unhide hn, rfl⟩, unhide hb⟩
          · have dk : ((k : Int) + 1 == (s.size : Int)) = true := by simp; omega
            have hn := hide ((unhide hl).no (by rw [unhide ed, unhide HE, List.drop_of_length_le (by simp; omega)]; exact toks_bad_end))
            go_wp2_with fail
            go_ret2
            exact ⟨.inl ⟨unhide hn, rfl⟩, unhide hb⟩
      · have he : s[k] = 42 := u8_eqT (n := 42) (by simpa using c1)
        have st := hide ((unhide hl).step (t := none) (by rw [unhide ed, he]; exact toks_star _))
        clear he
        go_wp2_with (at_builtin; refine wpList_append_own _ rfl _ _ 127 rfl w.heap.size 132 i0 (.agg #[.bool false, .int .u8 0]) 2 2 Tryz.underlying127 hi hz0 hz1 hz2 rfl (by decide) _ _ _ rfl ((unhide hown).alloc _) ⟨wr.heap.size, 0, none⟩ 1 1 [.bool true, .int .u8 0] rfl rfl (cell_two_new _ _ _ _) (by intro u hu; simp at hu; rcases hu with rfl | rfl <;> rfl) (by unfold maxLen; omega) (by omega) (by have := (unhide hb).size; simp; omega) ?_; intro v' w1 hown1 hgrow1 _)
        exact ⟨⟨k + 1, pre ++ [none], by omega, by simp; omega, by go_num, hide (own_snocP hown1), hide ((bAl (unhide hb) _).grown hgrow1 (by have := (unhide hb).size; simp; omega) (fun j hj => ((unhide hown).lt j hj).1)), st⟩, by simp [intOf]; omega⟩
    · have e : k = s.size := by omega
      have hd : Hid (toks s.data.toList = some pre) := hide (by
        have := unhide hl
        rw [e, List.drop_of_length_le (by simp)] at this
        exact this.done)
      clear e
      go_wp2_with fail
      go_ret2
      exact ⟨.inr ⟨pre, _, unhide hd, rfl, unhide hown⟩, unhide hb⟩

end Go.Proofs.YteaidfighimoiaaGreat.V
/- Expressions as trees: what is taken of a list, and what is right of it. Pure. -/
namespace Go.Proofs.YteaidfighimoiaaGreat.V
open Go.RowKit

abbrev eAgg (x : ExprT) : Value := .agg #[.int .i64 x.f0, .string x.f1, .int .i64 x.f2, .int .i64 x.f3, .string x.f4, .string x.f5, .int .i64 x.f6]
abbrev eRow (x : ExprT) : Array Value := #[.int .i64 x.f0, .string x.f1, .int .i64 x.f2, .int .i64 x.f3, .string x.f4, .string x.f5, .int .i64 x.f6]
abbrev empE : ByteArray := ⟨#[]⟩

def zEx (x : ExprT) : Prop := x.f2 = 0 ∧ x.f3 = 0 ∧ x.f4 = empE ∧ x.f5 = empE
def varP (s : ByteArray) : Prop := s.toList = [112, 114, 105, 110, 99, 105, 112, 97, 108] ∨ s.toList = [97, 99, 116, 105, 111, 110] ∨ s.toList = [114, 101, 115, 111, 117, 114, 99, 101] ∨ s.toList = [99, 111, 110, 116, 101, 120, 116]
/-- How many kids a kind has: -1 none of the kinds, -2 any number. -/
def ari (k : Int) : Int := if k = 1 ∨ k = 3 then 0 else if k = 2 then -2 else if k = 4 ∨ k = 5 ∨ k = 6 ∨ k = 7 ∨ k = 20 ∨ k = 21 then 1 else if k = 10 then 3 else if 8 ≤ k ∧ k ≤ 19 then 2 else -1
def txtP (x : ExprT) : Prop :=
  if x.f0 = 1 then x.f1 = empE ∧ goodAtom x.f2 x.f3 x.f4 x.f5 = true else if x.f0 = 3 then varP x.f1 else if x.f0 = 4 ∨ x.f0 = 5 ∨ x.f0 = 21 then goodName x.f1 = true
  else if x.f0 = 20 then x.f1.size ≤ 200 ∧ textL x.f1 = true ∧ (toks x.f1.data.toList).isSome = true else x.f1 = empE
def kidP (x : ExprT) : Prop := if x.f0 = 2 then 0 ≤ x.f6 ∧ x.f6 ≤ 10 else x.f6 = ari x.f0
def NodeP (x : ExprT) : Prop := ari x.f0 ≠ -1 ∧ kidP x ∧ (x.f0 = 1 ∨ zEx x) ∧ txtP x
theorem NodeP.kids {x : ExprT} (h : NodeP x) : 0 ≤ x.f6 ∧ x.f6 ≤ 10 := by
  obtain ⟨h1, h2, _⟩ := h
  unfold kidP at h2
  split at h2
  · exact h2
  · unfold ari at h1 h2
    repeat' split at h2
    all_goals (try (simp_all; done))
    all_goals omega

inductive ET where
  | node (n : ExprT) (kids : List ET)
def ET.n : ET → ExprT | .node n _ => n
def ET.kids : ET → List ET | .node _ k => k

def takeK (f : List ExprT → Option (ET × List ExprT)) : Nat → List ExprT → Option (List ET × List ExprT)
  | 0, l => some ([], l)
  | n + 1, l => (f l).bind fun p => (takeK f n p.2).map fun q => (p.1 :: q.1, q.2)
/-- The tree of the first node and what is behind it, no deeper than r. -/
def takeT : Nat → List ExprT → Option (ET × List ExprT)
  | 0, _ => none
  | _ + 1, [] => none
  | r + 1, x :: l => if x.f6 < 0 ∨ 10 < x.f6 then none else (takeK (takeT r) x.f6.toNat l).map fun q => (.node x q.1, q.2)
open Classical in
/-- The same, of nodes that are right alone. -/
noncomputable def growT : Nat → List ExprT → Option (ET × List ExprT)
  | 0, _ => none
  | _ + 1, [] => none
  | r + 1, x :: l => if NodeP x then (takeK (growT r) x.f6.toNat l).bind fun q => if x.f0 = 2 → ∀ k ∈ q.1, k.n.f0 = 1 then some (.node x q.1, q.2) else none else none
inductive Right : ET → Prop
  | mk {x : ExprT} {ks : List ET} (h1 : NodeP x) (h2 : ∀ k ∈ ks, Right k) (h3 : x.f0 = 2 → ∀ k ∈ ks, k.n.f0 = 1) : Right (.node x ks)
theorem Right.out {x : ExprT} {ks : List ET} (h : Right (.node x ks)) : NodeP x ∧ (∀ k ∈ ks, Right k) ∧ (x.f0 = 2 → ∀ k ∈ ks, k.n.f0 = 1) := by
  cases h with
  | mk h1 h2 h3 => exact ⟨h1, h2, h3⟩

theorem takeK_iff {r : Nat} (ih : ∀ l t l', growT r l = some (t, l') ↔ takeT r l = some (t, l') ∧ Right t) : ∀ (n : Nat) (l : List ExprT) (ks : List ET) (l' : List ExprT),
    takeK (growT r) n l = some (ks, l') ↔ takeK (takeT r) n l = some (ks, l') ∧ ∀ k ∈ ks, Right k
  | 0, l, ks, l' => by simp [takeK]; rintro rfl _; simp
  | n + 1, l, ks, l' => by
    simp only [takeK, Option.bind_eq_some_iff, Option.map_eq_some_iff, Prod.exists, Prod.mk.injEq]
    constructor
    · rintro ⟨t, r1, h1, ts, r2, h2, rfl, rfl⟩
      obtain ⟨a1, a2⟩ := (ih _ _ _).1 h1
      obtain ⟨b1, b2⟩ := (takeK_iff ih n _ _ _).1 h2
      exact ⟨⟨t, r1, a1, ts, r2, b1, rfl, rfl⟩, by simpa using ⟨a2, b2⟩⟩
    · rintro ⟨⟨t, r1, h1, ts, r2, h2, rfl, rfl⟩, h3⟩
      exact ⟨t, r1, (ih _ _ _).2 ⟨h1, h3 _ (by simp)⟩, ts, r2, (takeK_iff ih n _ _ _).2 ⟨h2, fun k hk => h3 _ (by simp [hk])⟩, rfl, rfl⟩
theorem grow_iff : ∀ (r : Nat) (l : List ExprT) (t : ET) (l' : List ExprT), growT r l = some (t, l') ↔ takeT r l = some (t, l') ∧ Right t
  | 0, l, t, l' => by simp [growT, takeT]
  | r + 1, [], t, l' => by simp [growT, takeT]
  | r + 1, x :: l, t, l' => by
    simp only [growT, takeT]
    constructor
    · intro h
      split at h
      · rename_i hn
        obtain ⟨⟨ks, q⟩, h1, h2⟩ := Option.bind_eq_some_iff.1 h
        split at h2
        · rename_i h3
          obtain ⟨rfl, rfl⟩ := by simpa using h2
          obtain ⟨a1, a2⟩ := (takeK_iff (grow_iff r) _ _ _ _).1 h1
          have := hn.kids
          exact ⟨by rw [if_neg (by omega), a1]; rfl, .mk hn a2 h3⟩
        · cases h2
      · cases h
    · rintro ⟨h, hr⟩
      split at h
      · cases h
      · obtain ⟨⟨ks, q⟩, h1, h2⟩ := Option.map_eq_some_iff.1 h
        obtain ⟨rfl, rfl⟩ := by simpa using h2
        obtain ⟨o1, o2, o3⟩ := hr.out
        rw [if_pos o1, (takeK_iff (grow_iff r) _ _ _ _).2 ⟨h1, o2⟩]
        simp only [Option.bind_some]
        rw [if_pos o3]

/-- A good expression. -/
def GExpr (l : List ExprT) : Prop := l.length ≤ 60 ∧ ∃ t, growT 12 l = some (t, [])

theorem takeK_suf {f : List ExprT → Option (ET × List ExprT)} (hf : ∀ l t l', f l = some (t, l') → ∃ d, d ≤ l.length ∧ l' = l.drop d) : ∀ (n : Nat) (l : List ExprT) (ks : List ET) (l' : List ExprT), takeK f n l = some (ks, l') → ks.length = n ∧ ∃ d, d ≤ l.length ∧ l' = l.drop d
  | 0, l, ks, l', h => by simp [takeK] at h; obtain ⟨rfl, rfl⟩ := h; exact ⟨rfl, 0, by omega, by simp⟩
  | n + 1, l, ks, l', h => by
    simp only [takeK, Option.bind_eq_some_iff, Option.map_eq_some_iff, Prod.exists, Prod.mk.injEq] at h
    obtain ⟨t, r1, h1, ts, r2, h2, rfl, rfl⟩ := h
    obtain ⟨d1, e1, rfl⟩ := hf _ _ _ h1
    obtain ⟨a, d2, e2, rfl⟩ := takeK_suf hf n _ _ _ h2
    exact ⟨by simp [a], d1 + d2, by simp at e2; omega, by simp⟩
theorem takeT_suf : ∀ (r : Nat) (l : List ExprT) (t : ET) (l' : List ExprT), takeT r l = some (t, l') → ∃ d, d ≤ l.length ∧ l' = l.drop d
  | 0, l, t, l', h => by simp [takeT] at h
  | r + 1, [], t, l', h => by simp [takeT] at h
  | r + 1, x :: l, t, l', h => by
    simp only [takeT] at h
    split at h
    · cases h
    · obtain ⟨⟨ks, q⟩, h1, h2⟩ := Option.map_eq_some_iff.1 h
      obtain ⟨rfl, rfl⟩ := by simpa using h2
      obtain ⟨_, d, e, rfl⟩ := takeK_suf (takeT_suf r) _ _ _ _ h1
      exact ⟨d + 1, by simp; omega, by simp⟩

/-- So many kids are taken, and that is left. -/
def KidsTo (f : List ExprT → Option (ET × List ExprT)) (n : Nat) (l : List ExprT) (i : Nat) (pre : List ET) (l' : List ExprT) : Prop :=
  i ≤ n ∧ pre.length = i ∧ takeK f n l = (takeK f (n - i) l').map fun q => (pre ++ q.1, q.2)
theorem KidsTo.start (f : List ExprT → Option (ET × List ExprT)) (n : Nat) (l : List ExprT) : KidsTo f n l 0 [] l := ⟨Nat.zero_le _, rfl, by rw [Nat.sub_zero]; cases takeK f n l <;> simp⟩
theorem KidsTo.step {f : List ExprT → Option (ET × List ExprT)} {n : Nat} {l : List ExprT} {i : Nat} {pre : List ET} {l' : List ExprT} (h : KidsTo f n l i pre l') (hi : i < n) {t : ET} {r : List ExprT} (e : f l' = some (t, r)) : KidsTo f n l (i + 1) (pre ++ [t]) r := by
  refine ⟨hi, by simp [h.2.1], ?_⟩
  have e1 : n - i = (n - (i + 1)) + 1 := by omega
  rw [h.2.2, e1, takeK, e]
  simp only [Option.bind_some]
  cases takeK f (n - (i + 1)) r <;> simp
theorem KidsTo.no {f : List ExprT → Option (ET × List ExprT)} {n : Nat} {l : List ExprT} {i : Nat} {pre : List ET} {l' : List ExprT} (h : KidsTo f n l i pre l') (hi : i < n) (e : f l' = none) : takeK f n l = none := by
  have e1 : n - i = (n - (i + 1)) + 1 := by omega
  rw [h.2.2, e1, takeK, e]; rfl
theorem KidsTo.done {f : List ExprT → Option (ET × List ExprT)} {n : Nat} {l : List ExprT} {pre : List ET} {l' : List ExprT} (h : KidsTo f n l n pre l') : takeK f n l = some (pre, l') := by
  rw [h.2.2, Nat.sub_self, takeK]; simp

end Go.Proofs.YteaidfighimoiaaGreat.V
