/- QQuo, QDec, one behind the other. -/
import Derived.Test.YthemcakenammdaaGreatDoorJ13
import Derived.Maps.AppendAt
/- spec.l1Num; quoted texts: spec.l1Quoted, impl.quotedText. -/
namespace Go.Proofs.YthemcakenammdaaGreatDoor
open Go.RowKit

set_option maxHeartbeats 400000 in
theorem l1Num_any (n : Int) (w : World) (h0 : -9223372036854775808 ≤ n) (h1 : n ≤ 9223372036854775807) :
    Calls Tryz.prog 60 #[.int .i64 n] w fun e w' => e = .returned (.string ⟨(Lib.itoa n).toArray⟩) ∧ Below w.heap.size w w' := by
  have q := hide (fun w => l1Size_any n w h0 h1)
  have hlen := Lib.itoa_length_le n h0 h1
  by_cases hn : n < 0
  · have e1 : Lib.itoa n = 45 :: Lib.decDigits n.natAbs := by unfold Lib.itoa; rw [if_pos hn]
    rw [e1] at hlen ⊢
    have ap := hide (app_one 45 (Lib.decDigits n.natAbs))
    have hz : (⟨(Lib.decDigits n.natAbs).toArray⟩ : ByteArray).size ≤ 21 := by show (Lib.decDigits n.natAbs).toArray.size ≤ _; simp at hlen ⊢; omega
    rw [← unhide ap]
    generalize (⟨(Lib.decDigits n.natAbs).toArray⟩ : ByteArray) = X at q hz
    have q1 : ¬ 9223372036854775806 < X.size := by omega
    have q2 : X.size ≤ 9223372036854775806 := by omega
    have q3 : ¬ 9223372036854775807 < 1 + X.size := by omega
    have q4 : 1 + X.size ≤ 9223372036854775807 := by omega
    clear ap e1 hlen
    go_enter Tryz.func60, Tryz.ntmps60
    go_wp2_with fail
    refine (unhide q _).mono ?_
    rintro e w1 ⟨rfl, hb⟩
    go_wp2_with fail
    go_ret
    exact ⟨rfl, hb⟩
  · have e1 : Lib.itoa n = Lib.decDigits n.natAbs := by unfold Lib.itoa; rw [if_neg hn]; congr 1; omega
    rw [e1]
    generalize (⟨(Lib.decDigits n.natAbs).toArray⟩ : ByteArray) = X at q
    clear hlen e1
    go_enter Tryz.func60, Tryz.ntmps60
    go_wp2_with fail
    refine (unhide q _).mono ?_
    rintro e w1 ⟨rfl, hb⟩
    go_wp2_with fail
    go_ret
    exact ⟨rfl, hb⟩

/-- A byte within quotes. -/
def qb (c : UInt8) : List UInt8 := if c = 34 ∨ c = 92 then [92, c] else [c]
def qs (t : List UInt8) : List UInt8 := t.flatMap qb
def quo (t : List UInt8) : List UInt8 := 34 :: (qs t ++ [34])
theorem qs_snoc (t : List UInt8) (c : UInt8) : qs (t ++ [c]) = qs t ++ qb c := by simp [qs]
theorem own_snocU {w' : World} {base : Nat} {v' : Value} {pre : List UInt8} {c : UInt8} (h : w'.ownsRow base 5 1 v' (pre.length + 1) (pre.map byteV ++ [byteV c])) : w'.ownsRow base 5 1 v' (pre ++ [c]).length ((pre ++ [c]).map byteV) := by
  simpa using h
theorem take_at (s : ByteArray) (k : Nat) (h : k < s.size) : s.data.toList.take (k + 1) = s.data.toList.take k ++ [s[k]] := by
  rw [List.take_succ_eq_append_getElem (by simpa using h)]; rfl
theorem info_u8 : (Tryz.prog.info? 5).map (fun i => (i.zero, i.size, i.bytes)) = some (some (.int .u8 0), 1, 1) := by kernel_rfl
theorem u8_is {c : UInt8} {n : Nat} (hn : n < 256) : ((c.toNat : Int) == (n : Int)) = decide (c = UInt8.ofNat n) := by
  rw [Bool.eq_iff_iff]
  simp only [beq_iff_eq, decide_eq_true_eq]
  constructor
  · intro h
    apply UInt8.toNat_inj.1
    rw [UInt8.toNat_ofNat']
    omega
  · intro h
    rw [h, UInt8.toNat_ofNat']
    omega

set_option maxRecDepth 8000 in
set_option maxHeartbeats 2000000 in
theorem l1Quoted_any (s : ByteArray) (w : World) (hs : s.size ≤ 200) :
    Calls Tryz.prog 61 #[.string s] w fun e w' => e = .returned (.string ⟨(quo s.data.toList).toArray⟩) ∧ Below w.heap.size w w' := by
  obtain ⟨i0, hi, hz0, hz1, hz2⟩ := info_parts info_u8
  have O0 := hide (own_new w 34)
  go_enter Tryz.func61, Tryz.ntmps61
  go_wp2_with fail
  go_loopw [3, 4] (fun v i w' => ∃ (k : Nat) (pre : List UInt8), k ≤ s.size ∧ pre.length ≤ 2 * k + 1 ∧ i = .int .i64 k ∧ Hid (w'.ownsRow w.heap.size 5 1 v pre.length (pre.map byteV)) ∧ Hid (Below w.heap.size w w') ∧ Hid (pre = 34 :: qs (s.data.toList.take k))) (fun _ i _ => s.size - (intOf i).toNat)
  case atStart => exact ⟨0, [34], Nat.zero_le _, by simp, rfl, O0, hide (bAl (Below.refl _ _) _), hide rfl⟩
  case round =>
    obtain ⟨k, pre, hk, hpre, rfl, hown, hb, hl⟩ := hrel
    by_cases hlt : k < s.size
    · have ed := hide (take_at s k hlt)
      obtain ⟨c, hc⟩ : ∃ c, s[k] = c := ⟨_, rfl⟩
      rw [hc] at ed
      have e34 : ((c.toNat : Int) == 34) = decide (c = 34) := u8_is (n := 34) (by decide)
      have e92 : ((c.toNat : Int) == 92) = decide (c = 92) := u8_is (n := 92) (by decide)
      by_cases hq : c = 34 ∨ c = 92
      · have st := hide (show pre ++ [92] ++ [c] = 34 :: qs (s.data.toList.take (k + 1)) by
          rw [unhide ed, qs_snoc, unhide hl, qb, if_pos hq]; simp)
        by_cases h34 : c = 34
        · rw [decide_eq_true h34] at e34
          clear hq h34 e92
          go_wp2_with (first
            | (at_builtin; refine wpList_append_own_at _ rfl _ _ 44 rfl w.heap.size 5 i0 (.int .u8 0) 1 1 Tryz.underlying44 hi hz0 hz1 hz2 rfl (by decide) _ _ _ rfl ((unhide hown).alloc _) ⟨_, 0, none⟩ 1 1 [byteV 92] rfl rfl (cell_one_new _ _ _) (fun x hx => by simp at hx; subst hx; rfl) (by unfold maxLen; omega) (by omega) (by have := (unhide hb).size; simp; omega) ?_; intro v2 w2 hown1 hgrow1 _ hat1; have own2 := hide (own_snocU hown1); have b2 := hide ((bAl (unhide hb) _).grown hgrow1 (by have := (unhide hb).size; simp; omega) (fun j hj => ((unhide hown).lt j hj).1)); clear hown1 hgrow1 hat1)
            | (at_builtin; refine wpList_append_own_at _ rfl _ _ 44 rfl w.heap.size 5 i0 (.int .u8 0) 1 1 Tryz.underlying44 hi hz0 hz1 hz2 rfl (by decide) _ _ _ rfl ((unhide own2).alloc _) ⟨_, 0, none⟩ 1 1 [byteV c] rfl rfl (cell_one_new _ _ _) (fun x hx => by simp at hx; subst hx; rfl) (by simp; unfold maxLen; omega) (by simp; omega) (by have := (unhide b2).size; simp; omega) ?_; intro v3 w3 hown3 hgrow3 _ hat3))
          exact ⟨⟨k + 1, pre ++ [92] ++ [c], by omega, by simp; omega, by go_num, hide (own_snocU hown3), hide ((bAl (unhide b2) _).grown hgrow3 (by have := (unhide b2).size; simp; omega) (fun j hj => ((unhide own2).lt j hj).1)), st⟩, by simp [intOf]; omega⟩
        · rw [decide_eq_false h34] at e34
          rw [decide_eq_true (hq.resolve_left h34)] at e92
          clear hq h34
          go_wp2_with (first
            | (at_builtin; refine wpList_append_own_at _ rfl _ _ 44 rfl w.heap.size 5 i0 (.int .u8 0) 1 1 Tryz.underlying44 hi hz0 hz1 hz2 rfl (by decide) _ _ _ rfl ((unhide hown).alloc _) ⟨_, 0, none⟩ 1 1 [byteV 92] rfl rfl (cell_one_new _ _ _) (fun x hx => by simp at hx; subst hx; rfl) (by unfold maxLen; omega) (by omega) (by have := (unhide hb).size; simp; omega) ?_; intro v2 w2 hown1 hgrow1 _ hat1; have own2 := hide (own_snocU hown1); have b2 := hide ((bAl (unhide hb) _).grown hgrow1 (by have := (unhide hb).size; simp; omega) (fun j hj => ((unhide hown).lt j hj).1)); clear hown1 hgrow1 hat1)
            | (at_builtin; refine wpList_append_own_at _ rfl _ _ 44 rfl w.heap.size 5 i0 (.int .u8 0) 1 1 Tryz.underlying44 hi hz0 hz1 hz2 rfl (by decide) _ _ _ rfl ((unhide own2).alloc _) ⟨_, 0, none⟩ 1 1 [byteV c] rfl rfl (cell_one_new _ _ _) (fun x hx => by simp at hx; subst hx; rfl) (by simp; unfold maxLen; omega) (by simp; omega) (by have := (unhide b2).size; simp; omega) ?_; intro v3 w3 hown3 hgrow3 _ hat3))
          exact ⟨⟨k + 1, pre ++ [92] ++ [c], by omega, by simp; omega, by go_num, hide (own_snocU hown3), hide ((bAl (unhide b2) _).grown hgrow3 (by have := (unhide b2).size; simp; omega) (fun j hj => ((unhide own2).lt j hj).1)), st⟩, by simp [intOf]; omega⟩
      · have st := hide (show pre ++ [c] = 34 :: qs (s.data.toList.take (k + 1)) by
          rw [unhide ed, qs_snoc, unhide hl, qb, if_neg hq]; simp)
        rw [decide_eq_false (fun h => hq (.inl h))] at e34
        rw [decide_eq_false (fun h => hq (.inr h))] at e92
        clear hq
        go_wp2_with (at_builtin; refine wpList_append_own_at _ rfl _ _ 44 rfl w.heap.size 5 i0 (.int .u8 0) 1 1 Tryz.underlying44 hi hz0 hz1 hz2 rfl (by decide) _ _ _ rfl ((unhide hown).alloc _) ⟨_, 0, none⟩ 1 1 [byteV c] rfl rfl (cell_one_new _ _ _) (fun x hx => by simp at hx; subst hx; rfl) (by unfold maxLen; omega) (by omega) (by have := (unhide hb).size; simp; omega) ?_; intro v3 w3 hown3 hgrow3 _ hat3)
        exact ⟨⟨k + 1, pre ++ [c], by omega, by simp; omega, by go_num, hide (own_snocU hown3), hide ((bAl (unhide hb) _).grown hgrow3 (by have := (unhide hb).size; simp; omega) (fun j hj => ((unhide hown).lt j hj).1)), st⟩, by simp [intOf]; omega⟩
    · have e : k = s.size := by omega
      have st := hide (show pre ++ [34] = quo s.data.toList by
        rw [unhide hl, e, List.take_of_length_le (by simp)]; rfl)
      go_wp2_with (at_builtin; refine wpList_append_own_at _ rfl _ _ 44 rfl w.heap.size 5 i0 (.int .u8 0) 1 1 Tryz.underlying44 hi hz0 hz1 hz2 rfl (by decide) _ _ _ rfl ((unhide hown).alloc _) ⟨_, 0, none⟩ 1 1 [byteV 34] rfl rfl (cell_one_new _ _ _) (fun x hx => by simp at hx; subst hx; rfl) (by unfold maxLen; omega) (by omega) (by have := (unhide hb).size; simp; omega) ?_; intro v3 w3 hown3 hgrow3 _ hat3; have cv := conv_own (own_snocU hown3))
      have b3 := hide ((bAl (unhide hb) _).grown hgrow3 (by have := (unhide hb).size; simp; omega) (fun j hj => ((unhide hown).lt j hj).1))
      go_ret
      exact ⟨by rw [← unhide st]; rfl, unhide b3⟩

theorem cells_grown {w w' : World} {o : Obj} {B : Nat} {s : ByteArray} {row : Option Nat} (h : ∀ j (h : j < s.size), w.cell? ⟨B, j, none⟩ = some (.int .u8 (s[j].toNat : Int))) (hg : (w.alloc o).grownBy w' row) (hne : row ≠ some B) :
    ∀ j (h : j < s.size), w'.cell? ⟨B, j, none⟩ = some (.int .u8 (s[j].toNat : Int)) := fun j hj => by
  have z : B < w.heap.size := World.block_lt_of_cell? w ⟨B, j, none⟩ (h j hj)
  rw [World.cell?_of_block (a := ⟨B, j, none⟩) (hg.block B (by simp; omega) (fun e => hne e.symm)), (bAl (Below.refl w.heap.size w) o).cell (p := ⟨B, j, none⟩) z]
  exact h j hj
theorem nb_grown {w : World} {o : Obj} {B : Nat} {v v' : Value} (h : v.ownBlock ≠ some B) (hat : v'.ownBlock = v.ownBlock ∨ v'.ownBlock = some (w.alloc o).heap.size) (hz : B < w.heap.size) : v'.ownBlock ≠ some B := by
  rcases hat with e | e
  · rw [e]; exact h
  · rw [e]; intro h; simp at h; omega
theorem own_keepT {w w' : World} {base n e size : Nat} {v : Value} {xs : List Value} (h : w.ownsRow base e size v n xs) (hb : Below w.heap.size w w') : w'.ownsRow base e size v n xs := by
  refine ⟨h.1, h.2.imp_right ?_⟩
  rintro ⟨g, cap, cur, e', h1, hh, r⟩
  have hl : g < w.heap.size := (Array.getElem?_eq_some_iff.1 hh).1
  exact ⟨g, cap, cur, e', h1, by rw [hb.block g hl]; exact hh, r⟩

set_option maxRecDepth 8000 in
set_option maxHeartbeats 2000000 in
theorem quotedText_any (s : ByteArray) (w : World) (hs : s.size ≤ 200) :
    Calls Tryz.prog 70 #[.string s] w fun e w' => e = .returned (.string ⟨(quo s.data.toList).toArray⟩) ∧ Below w.heap.size w w' := by
  obtain ⟨i0, hi, hz0, hz1, hz2⟩ := info_parts info_u8
  have O0 := hide (own_new w 34)
  obtain ⟨cap, w1, hrun, hbel, hcell⟩ := conv_bytes s (w.alloc (.cells #[.int .u8 34] 5))
  have O1 := hide (own_keepT (unhide O0) hbel)
  have B1 := hide (bTr (bAl (Below.refl w.heap.size w) (.cells #[.int .u8 34] 5)) hbel)
  rw [World.size_alloc] at hcell
  have HC := hide hcell
  clear hcell hbel O0
  go_enter Tryz.func70, Tryz.ntmps70
  go_wp2_with fail
  go_loopw [3, 10] (fun v i w' => ∃ (k : Nat) (pre : List UInt8), k ≤ s.size ∧ pre.length ≤ 2 * k + 1 ∧ i = .int .i64 k ∧ Hid (w'.ownsRow w.heap.size 5 1 v pre.length (pre.map byteV)) ∧ Hid (Below w.heap.size w w') ∧ Hid (pre = 34 :: qs (s.data.toList.take k)) ∧ Hid (∀ j (h : j < s.size), w'.cell? ⟨w.heap.size + 1, j, none⟩ = some (.int .u8 (s[j].toNat : Int))) ∧ Hid (v.ownBlock ≠ some (w.heap.size + 1))) (fun _ i _ => s.size - (intOf i).toNat)
  case atStart => exact ⟨0, [34], Nat.zero_le _, by simp, rfl, O1, B1, hide rfl, HC, hide (by intro h; simp [Value.ownBlock] at h)⟩
  case round =>
    obtain ⟨k, pre, hk, hpre, rfl, hown, hb, hl, hK, hnB⟩ := hrel
    by_cases hlt : k < s.size
    · have ed := hide (take_at s k hlt)
      have ck := unhide hK k hlt
      have zB := hide (World.block_lt_of_cell? wr ⟨w.heap.size + 1, k, none⟩ ck)
      obtain ⟨c, hc⟩ : ∃ c, s[k] = c := ⟨_, rfl⟩
      rw [hc] at ed ck
      have e34 : ((c.toNat : Int) == 34) = decide (c = 34) := u8_is (n := 34) (by decide)
      have e92 : ((c.toNat : Int) == 92) = decide (c = 92) := u8_is (n := 92) (by decide)
      by_cases hq : c = 34 ∨ c = 92
      · have st := hide (show pre ++ [92] ++ [c] = 34 :: qs (s.data.toList.take (k + 1)) by
          rw [unhide ed, qs_snoc, unhide hl, qb, if_pos hq]; simp)
        by_cases h34 : c = 34
        · rw [decide_eq_true h34] at e34
          clear hq h34 e92
          go_wp2_with (first
            | (at_builtin; refine wpList_append_own_at _ rfl _ _ 44 rfl w.heap.size 5 i0 (.int .u8 0) 1 1 Tryz.underlying44 hi hz0 hz1 hz2 rfl (by decide) _ _ _ rfl ((unhide hown).alloc _) ⟨_, 0, none⟩ 1 1 [byteV 92] rfl rfl (cell_one_new _ _ _) (fun x hx => by simp at hx; subst hx; rfl) (by unfold maxLen; omega) (by omega) (by have := (unhide hb).size; simp; omega) ?_; intro v2 w2 hown1 hgrow1 _ hat1; have own2 := hide (own_snocU hown1); have b2 := hide ((bAl (unhide hb) _).grown hgrow1 (by have := (unhide hb).size; simp; omega) (fun j hj => ((unhide hown).lt j hj).1)); have K2 := hide (cells_grown (unhide hK) hgrow1 (unhide hnB)); have n2 := hide (nb_grown (unhide hnB) hat1 (unhide zB)); have zB2 := hide (World.block_lt_of_cell? w2 ⟨w.heap.size + 1, k, none⟩ (unhide K2 k hlt)); clear hown1 hgrow1 hat1)
            | (at_builtin; refine wpList_append_own_at _ rfl _ _ 44 rfl w.heap.size 5 i0 (.int .u8 0) 1 1 Tryz.underlying44 hi hz0 hz1 hz2 rfl (by decide) _ _ _ rfl ((unhide own2).alloc _) ⟨_, 0, none⟩ 1 1 [byteV c] rfl rfl (cell_one_new _ _ _) (fun x hx => by simp at hx; subst hx; rfl) (by simp; unfold maxLen; omega) (by simp; omega) (by have := (unhide b2).size; simp; omega) ?_; intro v3 w3 hown3 hgrow3 _ hat3))
          exact ⟨⟨k + 1, pre ++ [92] ++ [c], by omega, by simp; omega, by go_num, hide (own_snocU hown3), hide ((bAl (unhide b2) _).grown hgrow3 (by have := (unhide b2).size; simp; omega) (fun j hj => ((unhide own2).lt j hj).1)), st, hide (cells_grown (unhide K2) hgrow3 (unhide n2)), hide (nb_grown (unhide n2) hat3 (unhide zB2))⟩, by simp [intOf]; omega⟩
        · rw [decide_eq_false h34] at e34
          rw [decide_eq_true (hq.resolve_left h34)] at e92
          clear hq h34
          go_wp2_with (first
            | (at_builtin; refine wpList_append_own_at _ rfl _ _ 44 rfl w.heap.size 5 i0 (.int .u8 0) 1 1 Tryz.underlying44 hi hz0 hz1 hz2 rfl (by decide) _ _ _ rfl ((unhide hown).alloc _) ⟨_, 0, none⟩ 1 1 [byteV 92] rfl rfl (cell_one_new _ _ _) (fun x hx => by simp at hx; subst hx; rfl) (by unfold maxLen; omega) (by omega) (by have := (unhide hb).size; simp; omega) ?_; intro v2 w2 hown1 hgrow1 _ hat1; have own2 := hide (own_snocU hown1); have b2 := hide ((bAl (unhide hb) _).grown hgrow1 (by have := (unhide hb).size; simp; omega) (fun j hj => ((unhide hown).lt j hj).1)); have K2 := hide (cells_grown (unhide hK) hgrow1 (unhide hnB)); have n2 := hide (nb_grown (unhide hnB) hat1 (unhide zB)); have zB2 := hide (World.block_lt_of_cell? w2 ⟨w.heap.size + 1, k, none⟩ (unhide K2 k hlt)); clear hown1 hgrow1 hat1)
            | (at_builtin; refine wpList_append_own_at _ rfl _ _ 44 rfl w.heap.size 5 i0 (.int .u8 0) 1 1 Tryz.underlying44 hi hz0 hz1 hz2 rfl (by decide) _ _ _ rfl ((unhide own2).alloc _) ⟨_, 0, none⟩ 1 1 [byteV c] rfl rfl (cell_one_new _ _ _) (fun x hx => by simp at hx; subst hx; rfl) (by simp; unfold maxLen; omega) (by simp; omega) (by have := (unhide b2).size; simp; omega) ?_; intro v3 w3 hown3 hgrow3 _ hat3))
          exact ⟨⟨k + 1, pre ++ [92] ++ [c], by omega, by simp; omega, by go_num, hide (own_snocU hown3), hide ((bAl (unhide b2) _).grown hgrow3 (by have := (unhide b2).size; simp; omega) (fun j hj => ((unhide own2).lt j hj).1)), st, hide (cells_grown (unhide K2) hgrow3 (unhide n2)), hide (nb_grown (unhide n2) hat3 (unhide zB2))⟩, by simp [intOf]; omega⟩
      · have st := hide (show pre ++ [c] = 34 :: qs (s.data.toList.take (k + 1)) by
          rw [unhide ed, qs_snoc, unhide hl, qb, if_neg hq]; simp)
        rw [decide_eq_false (fun h => hq (.inl h))] at e34
        rw [decide_eq_false (fun h => hq (.inr h))] at e92
        clear hq
        go_wp2_with (at_builtin; refine wpList_append_own_at _ rfl _ _ 44 rfl w.heap.size 5 i0 (.int .u8 0) 1 1 Tryz.underlying44 hi hz0 hz1 hz2 rfl (by decide) _ _ _ rfl ((unhide hown).alloc _) ⟨_, 0, none⟩ 1 1 [byteV c] rfl rfl (cell_one_new _ _ _) (fun x hx => by simp at hx; subst hx; rfl) (by unfold maxLen; omega) (by omega) (by have := (unhide hb).size; simp; omega) ?_; intro v3 w3 hown3 hgrow3 _ hat3)
        exact ⟨⟨k + 1, pre ++ [c], by omega, by simp; omega, by go_num, hide (own_snocU hown3), hide ((bAl (unhide hb) _).grown hgrow3 (by have := (unhide hb).size; simp; omega) (fun j hj => ((unhide hown).lt j hj).1)), st, hide (cells_grown (unhide hK) hgrow3 (unhide hnB)), hide (nb_grown (unhide hnB) hat3 (unhide zB))⟩, by simp [intOf]; omega⟩
    · have e : k = s.size := by omega
      have st := hide (show pre ++ [34] = quo s.data.toList by
        rw [unhide hl, e, List.take_of_length_le (by simp)]; rfl)
      go_wp2_with (at_builtin; refine wpList_append_own_at _ rfl _ _ 44 rfl w.heap.size 5 i0 (.int .u8 0) 1 1 Tryz.underlying44 hi hz0 hz1 hz2 rfl (by decide) _ _ _ rfl ((unhide hown).alloc _) ⟨_, 0, none⟩ 1 1 [byteV 34] rfl rfl (cell_one_new _ _ _) (fun x hx => by simp at hx; subst hx; rfl) (by unfold maxLen; omega) (by omega) (by have := (unhide hb).size; simp; omega) ?_; intro v3 w3 hown3 hgrow3 _ hat3; have cv := conv_own (own_snocU hown3))
      have b3 := hide ((bAl (unhide hb) _).grown hgrow3 (by have := (unhide hb).size; simp; omega) (fun j hj => ((unhide hown).lt j hj).1))
      go_ret
      exact ⟨by rw [← unhide st]; rfl, unhide b3⟩
end Go.Proofs.YthemcakenammdaaGreatDoor
/- Decimal numbers: impl.decimalText; texts as spec.l1Text has them. -/
namespace Go.Proofs.YthemcakenammdaaGreatDoor
open Go.RowKit

def padL (D : List UInt8) : List UInt8 := List.replicate (5 - D.length) 48 ++ D
def dotL (P : List UInt8) : List UInt8 := P.take (P.length - 4) ++ 46 :: P.drop (P.length - 4)
def decL (n : Int) : List UInt8 := (if n < 0 then [45] else []) ++ dotL (padL (Lib.decDigits n.natAbs))
theorem padL_len (D : List UInt8) : (padL D).length = 5 - D.length + D.length := by simp [padL]
theorem dig_len (n : Int) (h0 : -9223372036854775808 ≤ n) (h1 : n ≤ 9223372036854775807) : (Lib.decDigits n.natAbs).length ≤ 21 := by
  have := Lib.itoa_length_le n h0 h1
  unfold Lib.itoa at this
  split at this
  · simp at this; omega
  · rw [show n.natAbs = n.toNat by omega]; exact this
theorem dot_bytes (X : ByteArray) (P : List UInt8) (hX : X.data.toList = P) (p : Nat) (hp : p = P.length - 4) : (X.extract 0 p ++ ⟨#[46]⟩ ++ X.extract p X.size : ByteArray) = ⟨(dotL P).toArray⟩ := by
  have hs : X.size = P.length := by rw [← hX]; simp
  subst hp
  apply ByteArray.ext
  apply Array.toList_inj.1
  simp [ByteArray.data_append, ByteArray.data_extract, dotL, hX, hs, List.take_of_length_le]

theorem rep_one (c : Nat) : Lib.repeatL [48] c = List.replicate c 48 := by
  induction c with
  | zero => rfl
  | succ c ih => show [48] ++ Lib.repeatL [48] c = _; rw [ih]; rfl
theorem pad_bytes (Y : ByteArray) (D : List UInt8) (hY : Y.data.toList = D) : ((⟨(Lib.repeatL [48] (5 - D.length)).toArray⟩ : ByteArray) ++ Y : ByteArray).data.toList = padL D := by
  rw [rep_one]
  simp [ByteArray.data_append, padL, hY]
theorem sign_bytes (S : ByteArray) (L : List UInt8) (X : ByteArray) (hX : X = ⟨L.toArray⟩) : (S ++ X : ByteArray) = ⟨(S.data.toList ++ L).toArray⟩ := by
  subst hX
  apply ByteArray.ext
  apply Array.toList_inj.1
  simp [ByteArray.data_append]

set_option maxRecDepth 8000 in
set_option maxHeartbeats 2000000 in
theorem decimalText_any (n : Int) (w : World) (h0 : -9223372036854775808 ≤ n) (h1 : n ≤ 9223372036854775807) (ht : Tab w) :
    Calls Tryz.prog 71 #[.int .i64 n] w fun e w' => e = .returned (.string ⟨(decL n).toArray⟩) ∧ Below w.heap.size w w' := by
  have qi := hide (itoa_any n w h0 h1 ht)
  have hD := dig_len n h0 h1
  obtain ⟨Y, hYD⟩ : ∃ Y : ByteArray, Y = ⟨(Lib.decDigits n.natAbs).toArray⟩ := ⟨_, rfl⟩
  have HY := hide (show Y.data.toList = Lib.decDigits n.natAbs by rw [hYD])
  have hYs : Y.size = (Lib.decDigits n.natAbs).length := by rw [hYD]; show (Lib.decDigits n.natAbs).toArray.size = _; simp
  have hy : Y.size ≤ 21 := by omega
  obtain ⟨C, hC⟩ : ∃ C, 5 - Y.size = C := ⟨_, rfl⟩
  have hCi : max (0 : Int) (5 - (Y.size : Int)) = (C : Int) := by omega
  have hC5 : C ≤ 5 := by omega
  have qr : Hid (∀ w, Calls Tryz.prog 93 #[.string ⟨#[48]⟩, .int .i64 C] w fun e w' => e = .returned (.string ⟨(Lib.repeatL [48] C).toArray⟩) ∧ Below w.heap.size w w') := hide (fun w => Tryz.strings_Repeat ⟨#[48]⟩ C w (by omega) (by show 1 * C ≤ _; omega))
  obtain ⟨Z, hZ⟩ : ∃ Z : ByteArray, Z = ⟨(Lib.repeatL [48] C).toArray⟩ := ⟨_, rfl⟩
  have hZs : Z.size = C := by rw [hZ, rep_one]; show (List.replicate C (48 : UInt8)).toArray.size = _; simp
  have HP := hide (show (Z ++ Y : ByteArray).data.toList = padL (Lib.decDigits n.natAbs) by rw [hZ, ← hC, hYs]; exact pad_bytes Y _ (unhide HY))
  have hPs : (Z ++ Y : ByteArray).size = C + Y.size := by rw [ByteArray.size_append, hZs]
  obtain ⟨P, hP⟩ : ∃ P, (Z ++ Y : ByteArray) = P := ⟨_, rfl⟩
  have p5 : 5 ≤ P.size ∧ P.size ≤ 26 := by rw [← hP, hPs]; omega
  have z1 : ¬ 9223372036854775807 < Z.size + Y.size := by omega
  have z2 : Z.size + Y.size ≤ 9223372036854775807 := by omega
  rw [hP] at HP
  rw [← hZ] at qr
  obtain ⟨p, hp⟩ : ∃ p, P.size - 4 = p := ⟨_, rfl⟩
  have hpi : (P.size : Int) - 4 = (p : Int) := by omega
  have hp0 : (0 : Int) ≤ (p : Int) := by omega
  have hp1 : (p : Int) ≤ (P.size : Int) := by omega
  have HPl := hide (show P.size = (padL (Lib.decDigits n.natAbs)).length by rw [← unhide HP]; simp)
  have hdot := hide (dot_bytes P (padL (Lib.decDigits n.natAbs)) (unhide HP) p (by rw [← unhide HPl]; exact hp.symm))
  have hDB := hide (show (⟨(Lib.decDigits n.natAbs).toArray⟩ : ByteArray) = Y from hYD.symm)
  have r1 : (P.extract 0 p).size = p := by rw [ByteArray.size_extract]; omega
  have r2 : (P.extract p P.size).size = 4 := by rw [ByteArray.size_extract]; omega
  have HR1 := hide r1
  have HR2 := hide r2
  have HHP := hide hP
  clear hZ hZs hPs hYs hC hp r1 r2 hYD
  by_cases hn : n < 0
  · have e1 : Lib.itoa n = 45 :: Lib.decDigits n.natAbs := by unfold Lib.itoa; rw [if_pos hn]
    have eL := hide (show decL n = [45] ++ dotL (padL (Lib.decDigits n.natAbs)) by unfold decL; rw [if_pos hn])
    obtain ⟨X, hX⟩ : ∃ X : ByteArray, X = ⟨(45 :: Lib.decDigits n.natAbs).toArray⟩ := ⟨_, rfl⟩
    have hXs : 1 ≤ X.size := by rw [hX]; show 1 ≤ (45 :: Lib.decDigits n.natAbs).toArray.size; simp
    have hex : X.extract 1 X.size = Y := by
      rw [← unhide hDB]
      apply ByteArray.ext
      apply Array.toList_inj.1
      rw [hX]
      simp [ByteArray.data_extract, ByteArray.size]
    have i1 : (1 : Int) ≤ (X.size : Int) := by omega
    rw [e1, ← hX] at qi
    generalize decL n = E at eL
    clear hX e1 hD
    go_enter Tryz.func71, Tryz.ntmps71
    go_wp2_with fail
    refine (unhide qi).mono ?_
    rintro e w1 ⟨rfl, hb⟩
    have B1 := hide hb
    clear hb qi
    go_wp2_with fail
    go_quiet (fail)
    go_wp2_with fail
    refine (unhide qr _).mono ?_
    rintro e w2 ⟨rfl, hb2⟩
    have B2 := hide (bTr (below_drewN (unhide B1) nq) hb2)
    clear hb2 B1
    go_wp2_with fail
    obtain ⟨A1, hA1⟩ : ∃ A1, P.extract 0 p = A1 := ⟨_, rfl⟩
    obtain ⟨A2, hA2⟩ : ∃ A2, P.extract p P.size = A2 := ⟨_, rfl⟩
    have sA1 : A1.size ≤ 26 := by rw [← hA1, unhide HR1]; omega
    have sA2 : A2.size ≤ 26 := by rw [← hA2, unhide HR2]; omega
    rw [hA1, hA2] at hdot
    generalize hS : (⟨#[45]⟩ : ByteArray) = S
    have sS : S.size ≤ 1 := by rw [← hS]; decide
    have fin := hide (show (S ++ A1 ++ ⟨#[46]⟩ ++ A2 : ByteArray) = ⟨E.toArray⟩ by
      rw [ByteArray.append_assoc, ByteArray.append_assoc, ← ByteArray.append_assoc (a := A1), unhide hdot, sign_bytes S _ _ rfl, ← hS, unhide eL])
    have k1 : ¬ 9223372036854775807 < S.size + A1.size := by omega
    have k2 : S.size + A1.size ≤ 9223372036854775807 := by omega
    have k3 : ¬ 9223372036854775806 < S.size + A1.size := by omega
    have k4 : S.size + A1.size ≤ 9223372036854775806 := by omega
    have k5 : ¬ 9223372036854775807 < S.size + A1.size + 1 + A2.size := by omega
    have k6 : S.size + A1.size + 1 + A2.size ≤ 9223372036854775807 := by omega
    clear hS
    go_quiet (fail)
    go_wp2_with fail
    go_ret
    exact ⟨by rw [← unhide fin]; rfl, below_drewN (unhide B2) _⟩
  · have e1 : Lib.itoa n = Lib.decDigits n.natAbs := by unfold Lib.itoa; rw [if_neg hn]; congr 1; omega
    have eL := hide (show decL n = [] ++ dotL (padL (Lib.decDigits n.natAbs)) by unfold decL; rw [if_neg hn])
    rw [e1, unhide hDB] at qi
    generalize decL n = E at eL
    clear e1 hD
    go_enter Tryz.func71, Tryz.ntmps71
    go_wp2_with fail
    refine (unhide qi).mono ?_
    rintro e w1 ⟨rfl, hb⟩
    have B1 := hide hb
    clear hb qi
    go_wp2_with fail
    refine (unhide qr _).mono ?_
    rintro e w2 ⟨rfl, hb2⟩
    have B2 := hide (bTr (unhide B1) hb2)
    clear hb2 B1
    go_wp2_with fail
    obtain ⟨A1, hA1⟩ : ∃ A1, P.extract 0 p = A1 := ⟨_, rfl⟩
    obtain ⟨A2, hA2⟩ : ∃ A2, P.extract p P.size = A2 := ⟨_, rfl⟩
    have sA1 : A1.size ≤ 26 := by rw [← hA1, unhide HR1]; omega
    have sA2 : A2.size ≤ 26 := by rw [← hA2, unhide HR2]; omega
    rw [hA1, hA2] at hdot
    generalize hS : (⟨#[]⟩ : ByteArray) = S
    have sS : S.size ≤ 1 := by rw [← hS]; decide
    have fin := hide (show (S ++ A1 ++ ⟨#[46]⟩ ++ A2 : ByteArray) = ⟨E.toArray⟩ by
      rw [ByteArray.append_assoc, ByteArray.append_assoc, ← ByteArray.append_assoc (a := A1), unhide hdot, sign_bytes S _ _ rfl, ← hS, unhide eL])
    have k1 : ¬ 9223372036854775807 < S.size + A1.size := by omega
    have k2 : S.size + A1.size ≤ 9223372036854775807 := by omega
    have k3 : ¬ 9223372036854775806 < S.size + A1.size := by omega
    have k4 : S.size + A1.size ≤ 9223372036854775806 := by omega
    have k5 : ¬ 9223372036854775807 < S.size + A1.size + 1 + A2.size := by omega
    have k6 : S.size + A1.size + 1 + A2.size ≤ 9223372036854775807 := by omega
    clear hS
    go_quiet (fail)
    go_wp2_with fail
    go_ret
    exact ⟨by rw [← unhide fin]; rfl, below_drewN (unhide B2) _⟩
end Go.Proofs.YthemcakenammdaaGreatDoor
