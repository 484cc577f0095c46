/- Patterns: what they are made of, by spec.l1Tokens and impl.patternParts; ported from seat 1a. -/
import Derived.Test.YtlkpeolecfemnaaQName
import Derived.Test.YtlkpeolecfemnaaQText
import Derived.OwnWalk
import Derived.WalkSpells
namespace Go.Proofs.Ytlkpeolecfemnaa.V
open Go.RowKit

/-- A token: none for a star, else the byte that is asked for. -/
def toks : List UInt8 → Option (List (Option UInt8))
  | [] => some []
  | [c] => if c = 42 then some [none] else if c = 92 then none else some [some c]
  | c :: d :: r =>
    if c = 42 then (toks (d :: r)).map (none :: ·)
    else if c = 92 then (if d = 42 ∨ d = 92 then (toks r).map (some d :: ·) else none)
    else (toks (d :: r)).map (some c :: ·)

theorem toks_star (r : List UInt8) : toks (42 :: r) = (toks r).map (none :: ·) := by
  cases r with
  | nil => rfl
  | cons d r => simp [toks]
theorem toks_own {c : UInt8} (h1 : ¬ c = 42) (h2 : ¬ c = 92) (r : List UInt8) : toks (c :: r) = (toks r).map (some c :: ·) := by
  cases r with
  | nil => simp [toks, h1, h2]
  | cons d r => simp [toks, h1, h2]
theorem toks_bad_end : toks [92] = none := rfl
theorem toks_bad {d : UInt8} (h1 : ¬ d = 42) (h2 : ¬ d = 92) (r : List UInt8) : toks (92 :: d :: r) = none := by
  simp [toks, h1, h2]
theorem toks_esc {d : UInt8} (h : d = 42 ∨ d = 92) (r : List UInt8) : toks (92 :: d :: r) = (toks r).map (some d :: ·) := by
  simp [toks, h]

/-- What is told of a pattern when the tokens pre are made and l is left. -/
def LeftOf (p : List UInt8) (pre : List (Option UInt8)) (l : List UInt8) : Prop := toks p = (toks l).map (pre ++ ·)
theorem LeftOf.start (p : List UInt8) : LeftOf p [] p := by
  unfold LeftOf
  cases toks p <;> simp
theorem LeftOf.step {p : List UInt8} {pre : List (Option UInt8)} {l r : List UInt8} {t : Option UInt8} (h : LeftOf p pre l) (e : toks l = (toks r).map (t :: ·)) : LeftOf p (pre ++ [t]) r := by
  unfold LeftOf at *
  rw [h, e]
  cases toks r <;> simp
theorem LeftOf.no {p : List UInt8} {pre : List (Option UInt8)} {l : List UInt8} (h : LeftOf p pre l) (e : toks l = none) : toks p = none := by
  unfold LeftOf at h; rw [h, e]; rfl
theorem LeftOf.done {p : List UInt8} {pre : List (Option UInt8)} (h : LeftOf p pre []) : toks p = some pre := by
  unfold LeftOf at h; rw [h]; simp [toks]


def tokI : Option UInt8 → Int
  | none => 256
  | some c => c.toNat
def tokV (t : Option UInt8) : Value := .int .i64 (tokI t)
/-- How a reader of patterns ends. -/
def TokEnd (p : List UInt8) (e : Ending) (own : Value → List (Option UInt8) → Prop) : Prop :=
  (toks p = none ∧ e = .returned (.tuple #[.slice none 0 0, .bool false])) ∨ ∃ ts v, toks p = some ts ∧ e = .returned (.tuple #[v, .bool true]) ∧ own v ts

theorem info_int : (Try.prog.info? 3).map (fun i => (i.zero, i.size, i.bytes)) = some (some (.int .i64 0), 1, 8) := by kernel_rfl

theorem own_snoc {w' : World} {base : Nat} {v' : Value} {pre : List (Option UInt8)} {t : Option UInt8} (h : w'.ownsRow base 3 1 v' (pre.length + 1) (pre.map tokV ++ [tokV t])) : w'.ownsRow base 3 1 v' (pre ++ [t]).length ((pre ++ [t]).map tokV) := by
  simpa using h

theorem u8_eqT {a : UInt8} {n : Nat} (h : (a.toNat : Int) = (n : Int)) (hn : n < 256 := by omega) : a = UInt8.ofNat n := by
  apply UInt8.toNat_inj.1; simp; omega

theorem wrap_byte (b : UInt8) : wrap64 (b.toNat : Int) = (b.toNat : Int) := by
  have := b.toNat_lt
  simp only [wrap64]; omega

theorem drop_at (s : ByteArray) (k : Nat) (h : k < s.size) : s.data.toList.drop k = s[k] :: s.data.toList.drop (k + 1) := by
  rw [List.drop_eq_getElem_cons (by simpa using h)]; rfl

set_option maxHeartbeats 1000000 in
theorem l1Tokens_any (s : ByteArray) (hs : s.size ≤ 1048576) (w : World) :
    Calls Try.prog 25 #[.string s] w fun e w' => TokEnd s.data.toList e (fun v ts => w'.ownsRow w.heap.size 3 1 v ts.length (ts.map tokV)) ∧ Below w.heap.size w w' := by
  obtain ⟨i0, hi, hz0, hz1, hz2⟩ := info_parts info_int
  go_enter Try.func25, Try.ntmps25
  go_wp2
  go_loopw [4, 5] (fun v i w' => ∃ (k : Nat) (pre : List (Option UInt8)), k ≤ s.size ∧ pre.length ≤ k ∧ i = .int .i64 k ∧ Hid (w'.ownsRow w.heap.size 3 1 v pre.length (pre.map tokV)) ∧ Hid (Below w.heap.size w w') ∧ Hid (LeftOf s.data.toList pre (s.data.toList.drop k))) (fun _ i _ => s.size - (intOf i).toNat)
  case atStart => exact ⟨0, [], Nat.zero_le _, Nat.zero_le _, rfl, hide (World.ownsRow_nil _ _ _ _), hide (Below.refl _ _), hide (LeftOf.start _)⟩
  case round =>
    obtain ⟨k, pre, hk, hpre, rfl, hown, hb, hl⟩ := hrel
    by_cases hlt : k < s.size
    · have ed := hide (drop_at s k hlt)
      cases c1 : ((s[k].toNat : Int) == 42)
      · cases c2 : ((s[k].toNat : Int) == 92)
        · have n1 : ¬ s[k] = 42 := fun h => by rw [h] at c1; simp at c1
          have n2 : ¬ s[k] = 92 := fun h => by rw [h] at c2; simp at c2
          have st := hide ((unhide hl).step (t := some s[k]) (by rw [unhide ed]; exact toks_own n1 n2 _))
          clear n1 n2
          go_wp2_with (at_builtin; refine wpList_append_own _ rfl _ _ 67 rfl w.heap.size 3 i0 (.int .i64 0) 1 8 Try.underlying67 hi hz0 hz1 hz2 rfl (by decide) _ _ _ rfl ((unhide hown).alloc _) ⟨wr.heap.size, 0, none⟩ 1 1 [_] rfl rfl (cell_one_new _ _ _) (fun x hx => by simp at hx; subst hx; rfl) (by unfold maxLen; omega) (by omega) (by have := (unhide hb).size; simp; omega) ?_; intro v' w1 hown1 hgrow1 _)
          rw [wrap_byte] at hown1
          exact ⟨⟨k + 1, pre ++ [some s[k]], by omega, by simp; omega, by go_num, hide (own_snoc hown1), hide ((bAl (unhide hb) _).grown hgrow1 (by have := (unhide hb).size; simp; omega) (fun j hj => ((unhide hown).lt j hj).1)), st⟩, by simp [intOf]; omega⟩
        · have he : s[k] = 92 := u8_eqT (n := 92) (by simpa using c2)
          have HE := hide he
          clear he
          by_cases hk1 : k + 1 < s.size
          · have ed1 := hide (drop_at s (k + 1) hk1)
            have dk : ((k : Int) + 1 == (s.size : Int)) = false := by simp; omega
            obtain ⟨c, hc⟩ : ∃ c, s[k + 1] = c := ⟨_, rfl⟩
            rw [hc] at ed1
            cases d1 : ((c.toNat : Int) != 42) <;> cases d2 : ((c.toNat : Int) != 92)
            · have h1 : c = 42 := u8_eqT (n := 42) (by simpa using d1)
              have h2 : c = 92 := u8_eqT (n := 92) (by simpa using d2)
              rw [h1] at h2
              exact absurd h2 (by decide)
            · have h1 : c = 42 := u8_eqT (n := 42) (by simpa using d1)
              have st := hide ((unhide hl).step (t := some c) (by rw [unhide ed, unhide HE, unhide ed1]; exact toks_esc (.inl h1) _))
              clear h1
              go_wp2_with (at_builtin; refine wpList_append_own _ rfl _ _ 67 rfl w.heap.size 3 i0 (.int .i64 0) 1 8 Try.underlying67 hi hz0 hz1 hz2 rfl (by decide) _ _ _ rfl ((unhide hown).alloc _) ⟨wr.heap.size, 0, none⟩ 1 1 [_] rfl rfl (cell_one_new _ _ _) (fun x hx => by simp at hx; subst hx; rfl) (by unfold maxLen; omega) (by omega) (by have := (unhide hb).size; simp; omega) ?_; intro v' w1 hown1 hgrow1 _)
              rw [wrap_byte] at hown1
              exact ⟨⟨k + 2, pre ++ [some c], by omega, by simp; omega, by go_num, hide (own_snoc hown1), hide ((bAl (unhide hb) _).grown hgrow1 (by have := (unhide hb).size; simp; omega) (fun j hj => ((unhide hown).lt j hj).1)), st⟩, by simp [intOf]; omega⟩
            · have h1 : c = 92 := u8_eqT (n := 92) (by simpa using d2)
              have st := hide ((unhide hl).step (t := some c) (by rw [unhide ed, unhide HE, unhide ed1]; exact toks_esc (.inr h1) _))
              clear h1
              go_wp2_with (at_builtin; refine wpList_append_own _ rfl _ _ 67 rfl w.heap.size 3 i0 (.int .i64 0) 1 8 Try.underlying67 hi hz0 hz1 hz2 rfl (by decide) _ _ _ rfl ((unhide hown).alloc _) ⟨wr.heap.size, 0, none⟩ 1 1 [_] rfl rfl (cell_one_new _ _ _) (fun x hx => by simp at hx; subst hx; rfl) (by unfold maxLen; omega) (by omega) (by have := (unhide hb).size; simp; omega) ?_; intro v' w1 hown1 hgrow1 _)
              rw [wrap_byte] at hown1
              exact ⟨⟨k + 2, pre ++ [some c], by omega, by simp; omega, by go_num, hide (own_snoc hown1), hide ((bAl (unhide hb) _).grown hgrow1 (by have := (unhide hb).size; simp; omega) (fun j hj => ((unhide hown).lt j hj).1)), st⟩, by simp [intOf]; omega⟩
            · have h1 : ¬ c = 42 := fun h => by rw [h] at d1; simp at d1
              have h2 : ¬ c = 92 := fun h => by rw [h] at d2; simp at d2
              have hn := hide ((unhide hl).no (by rw [unhide ed, unhide HE, unhide ed1]; exact toks_bad h1 h2 _))
              clear h1 h2
              go_wp2_with fail
              go_ret2
              exact ⟨.inl ⟨unhide hn, rfl⟩, unhide hb⟩
          · have dk : ((k : Int) + 1 == (s.size : Int)) = true := by simp; omega
            have hn := hide ((unhide hl).no (by rw [unhide ed, unhide HE, List.drop_of_length_le (by simp; omega)]; exact toks_bad_end))
            go_wp2_with fail
            go_ret2
            exact ⟨.inl ⟨unhide hn, rfl⟩, unhide hb⟩
      · have he : s[k] = 42 := u8_eqT (n := 42) (by simpa using c1)
        have st := hide ((unhide hl).step (t := none) (by rw [unhide ed, he]; exact toks_star _))
        clear he
        go_wp2_with (at_builtin; refine wpList_append_own _ rfl _ _ 67 rfl w.heap.size 3 i0 (.int .i64 0) 1 8 Try.underlying67 hi hz0 hz1 hz2 rfl (by decide) _ _ _ rfl ((unhide hown).alloc _) ⟨wr.heap.size, 0, none⟩ 1 1 [.int .i64 256] rfl rfl (cell_one_new _ _ _) (fun x hx => by simp at hx; subst hx; rfl) (by unfold maxLen; omega) (by omega) (by have := (unhide hb).size; simp; omega) ?_; intro v' w1 hown1 hgrow1 _)
        exact ⟨⟨k + 1, pre ++ [none], by omega, by simp; omega, by go_num, hide (own_snoc hown1), hide ((bAl (unhide hb) _).grown hgrow1 (by have := (unhide hb).size; simp; omega) (fun j hj => ((unhide hown).lt j hj).1)), st⟩, by simp [intOf]; omega⟩
    · have e : k = s.size := by omega
      have hd : Hid (toks s.data.toList = some pre) := hide (by
        have := unhide hl
        rw [e, List.drop_of_length_le (by simp)] at this
        exact this.done)
      clear e
      go_wp2_with fail
      go_ret2
      exact ⟨.inr ⟨pre, _, unhide hd, rfl, unhide hown⟩, unhide hb⟩

def partV : Option UInt8 → List Value
  | none => [.bool true, .int .u8 0]
  | some c => [.bool false, .int .u8 c.toNat]
theorem info_part : (Try.prog.info? 90).map (fun i => (i.zero, i.size, i.bytes)) = some (some (.agg #[.bool false, .int .u8 0]), 2, 2) := by kernel_rfl
theorem own_snocP {w' : World} {base : Nat} {v' : Value} {pre : List (Option UInt8)} {t : Option UInt8} (h : w'.ownsRow base 90 2 v' (pre.length + 1) (pre.flatMap partV ++ partV t)) : w'.ownsRow base 90 2 v' (pre ++ [t]).length ((pre ++ [t]).flatMap partV) := by
  simpa using h

set_option maxHeartbeats 1000000 in
theorem patternParts_any (s : ByteArray) (hs : s.size ≤ 200) (w : World) :
    Calls Try.prog 41 #[.string s] w fun e w' => TokEnd s.data.toList e (fun v ts => w'.ownsRow w.heap.size 90 2 v ts.length (ts.flatMap partV)) ∧ Below w.heap.size w w' := by
  obtain ⟨i0, hi, hz0, hz1, hz2⟩ := info_parts info_part
  go_enter Try.func41, Try.ntmps41
  go_wp2
  go_loopw [4, 5] (fun v i w' => ∃ (k : Nat) (pre : List (Option UInt8)), k ≤ s.size ∧ pre.length ≤ k ∧ i = .int .i64 k ∧ Hid (w'.ownsRow w.heap.size 90 2 v pre.length (pre.flatMap partV)) ∧ Hid (Below w.heap.size w w') ∧ Hid (LeftOf s.data.toList pre (s.data.toList.drop k))) (fun _ i _ => s.size - (intOf i).toNat)
  case atStart => exact ⟨0, [], Nat.zero_le _, Nat.zero_le _, rfl, hide (World.ownsRow_nil _ _ _ _), hide (Below.refl _ _), hide (LeftOf.start _)⟩
  case round =>
    obtain ⟨k, pre, hk, hpre, rfl, hown, hb, hl⟩ := hrel
    by_cases hlt : k < s.size
    · have ed := hide (drop_at s k hlt)
      cases c1 : ((s[k].toNat : Int) == 42)
      · cases c2 : ((s[k].toNat : Int) == 92)
        · have n1 : ¬ s[k] = 42 := fun h => by rw [h] at c1; simp at c1
          have n2 : ¬ s[k] = 92 := fun h => by rw [h] at c2; simp at c2
          have st := hide ((unhide hl).step (t := some s[k]) (by rw [unhide ed]; exact toks_own n1 n2 _))
          clear n1 n2
          go_wp2_with (at_builtin; refine wpList_append_own _ rfl _ _ 84 rfl w.heap.size 90 i0 (.agg #[.bool false, .int .u8 0]) 2 2 Try.underlying84 hi hz0 hz1 hz2 rfl (by decide) _ _ _ rfl ((unhide hown).alloc _) ⟨wr.heap.size, 0, none⟩ 1 1 [_, _] rfl rfl (cell_two_new _ _ _ _) (by intro u hu; simp at hu; rcases hu with rfl | rfl <;> rfl) (by unfold maxLen; omega) (by omega) (by have := (unhide hb).size; simp; omega) ?_; intro v' w1 hown1 hgrow1 _)
          exact ⟨⟨k + 1, pre ++ [some s[k]], by omega, by simp; omega, by go_num, hide (own_snocP hown1), hide ((bAl (unhide hb) _).grown hgrow1 (by have := (unhide hb).size; simp; omega) (fun j hj => ((unhide hown).lt j hj).1)), st⟩, by simp [intOf]; omega⟩
        · have he : s[k] = 92 := u8_eqT (n := 92) (by simpa using c2)
          have HE := hide he
          clear he
          by_cases hk1 : k + 1 < s.size
          · have ed1 := hide (drop_at s (k + 1) hk1)
            have dk : ((k : Int) + 1 == (s.size : Int)) = false := by simp; omega
            obtain ⟨c, hc⟩ : ∃ c, s[k + 1] = c := ⟨_, rfl⟩
            rw [hc] at ed1
            cases d1 : ((c.toNat : Int) != 42) <;> cases d2 : ((c.toNat : Int) != 92)
            · have h1 : c = 42 := u8_eqT (n := 42) (by simpa using d1)
              have h2 : c = 92 := u8_eqT (n := 92) (by simpa using d2)
              rw [h1] at h2
              exact absurd h2 (by decide)
            · have h1 : c = 42 := u8_eqT (n := 42) (by simpa using d1)
              have st := hide ((unhide hl).step (t := some c) (by rw [unhide ed, unhide HE, unhide ed1]; exact toks_esc (.inl h1) _))
              clear h1
              go_wp2_with (at_builtin; refine wpList_append_own _ rfl _ _ 84 rfl w.heap.size 90 i0 (.agg #[.bool false, .int .u8 0]) 2 2 Try.underlying84 hi hz0 hz1 hz2 rfl (by decide) _ _ _ rfl ((unhide hown).alloc _) ⟨wr.heap.size, 0, none⟩ 1 1 [_, _] rfl rfl (cell_two_new _ _ _ _) (by intro u hu; simp at hu; rcases hu with rfl | rfl <;> rfl) (by unfold maxLen; omega) (by omega) (by have := (unhide hb).size; simp; omega) ?_; intro v' w1 hown1 hgrow1 _)
              exact ⟨⟨k + 2, pre ++ [some c], by omega, by simp; omega, by go_num, hide (own_snocP hown1), hide ((bAl (unhide hb) _).grown hgrow1 (by have := (unhide hb).size; simp; omega) (fun j hj => ((unhide hown).lt j hj).1)), st⟩, by simp [intOf]; omega⟩
            · have h1 : c = 92 := u8_eqT (n := 92) (by simpa using d2)
              have st := hide ((unhide hl).step (t := some c) (by rw [unhide ed, unhide HE, unhide ed1]; exact toks_esc (.inr h1) _))
              clear h1
              go_wp2_with (at_builtin; refine wpList_append_own _ rfl _ _ 84 rfl w.heap.size 90 i0 (.agg #[.bool false, .int .u8 0]) 2 2 Try.underlying84 hi hz0 hz1 hz2 rfl (by decide) _ _ _ rfl ((unhide hown).alloc _) ⟨wr.heap.size, 0, none⟩ 1 1 [_, _] rfl rfl (cell_two_new _ _ _ _) (by intro u hu; simp at hu; rcases hu with rfl | rfl <;> rfl) (by unfold maxLen; omega) (by omega) (by have := (unhide hb).size; simp; omega) ?_; intro v' w1 hown1 hgrow1 _)
              exact ⟨⟨k + 2, pre ++ [some c], by omega, by simp; omega, by go_num, hide (own_snocP hown1), hide ((bAl (unhide hb) _).grown hgrow1 (by have := (unhide hb).size; simp; omega) (fun j hj => ((unhide hown).lt j hj).1)), st⟩, by simp [intOf]; omega⟩
            · have h1 : ¬ c = 42 := fun h => by rw [h] at d1; simp at d1
              have h2 : ¬ c = 92 := fun h => by rw [h] at d2; simp at d2
              have hn := hide ((unhide hl).no (by rw [unhide ed, unhide HE, unhide ed1]; exact toks_bad h1 h2 _))
              clear h1 h2
              go_wp2_with fail
              go_ret2
              exact ⟨.inl ⟨unhide hn, rfl⟩, unhide hb⟩
          · have dk : ((k : Int) + 1 == (s.size : Int)) = true := by simp; omega
            have hn := hide ((unhide hl).no (by rw [unhide ed, unhide HE, List.drop_of_length_le (by simp; omega)]; exact toks_bad_end))
            go_wp2_with fail
            go_ret2
            exact ⟨.inl ⟨unhide hn, rfl⟩, unhide hb⟩
      · have he : s[k] = 42 := u8_eqT (n := 42) (by simpa using c1)
        have st := hide ((unhide hl).step (t := none) (by rw [unhide ed, he]; exact toks_star _))
        clear he
        go_wp2_with (at_builtin; refine wpList_append_own _ rfl _ _ 84 rfl w.heap.size 90 i0 (.agg #[.bool false, .int .u8 0]) 2 2 Try.underlying84 hi hz0 hz1 hz2 rfl (by decide) _ _ _ rfl ((unhide hown).alloc _) ⟨wr.heap.size, 0, none⟩ 1 1 [.bool true, .int .u8 0] rfl rfl (cell_two_new _ _ _ _) (by intro u hu; simp at hu; rcases hu with rfl | rfl <;> rfl) (by unfold maxLen; omega) (by omega) (by have := (unhide hb).size; simp; omega) ?_; intro v' w1 hown1 hgrow1 _)
        exact ⟨⟨k + 1, pre ++ [none], by omega, by simp; omega, by go_num, hide (own_snocP hown1), hide ((bAl (unhide hb) _).grown hgrow1 (by have := (unhide hb).size; simp; omega) (fun j hj => ((unhide hown).lt j hj).1)), st⟩, by simp [intOf]; omega⟩
    · have e : k = s.size := by omega
      have hd : Hid (toks s.data.toList = some pre) := hide (by
        have := unhide hl
        rw [e, List.drop_of_length_le (by simp)] at this
        exact this.done)
      clear e
      go_wp2_with fail
      go_ret2
      exact ⟨.inr ⟨pre, _, unhide hd, rfl, unhide hown⟩, unhide hb⟩

end Go.Proofs.Ytlkpeolecfemnaa.V
