/- DArmP, DArmS, DArmI, one behind the other. -/
import Derived.Test.YtppkgcedkdeccaaDoorJ2
import Derived.Maps.AppendAt
import Derived.Lib.SlBytesRow
import Derived.Lib.BufferRead
/- The armour, as lists. -/
namespace Go.Proofs.YtppkgcedkdeccaaDoor.D

/-- The letters. -/
def letL : List UInt8 := [48, 49, 50, 51, 52, 53, 54, 55, 56, 57, 97, 98, 99, 100, 101, 102, 103, 104, 105, 106, 107, 108, 109, 110, 111, 112, 113, 114, 115, 116, 117, 118]
def letOf (n : Nat) : UInt8 := letL.getD n 0
/-- Bit k of the data, the highest of the first byte first; 0 behind the end. -/
def bit (l : List UInt8) (k : Nat) : Nat := (l.getD (k / 8) 0).toNat / 2 ^ (7 - k % 8) % 2
theorem bit_lt (l : List UInt8) (k : Nat) : bit l k < 2 := Nat.mod_lt _ (by decide)
/-- t bits from b on, as a number. -/
def pre (l : List UInt8) (b : Nat) : Nat → Nat
  | 0 => 0
  | t + 1 => 2 * pre l b t + bit l (b + t)
theorem pre_lt (l : List UInt8) (b t : Nat) : pre l b t < 2 ^ t := by
  induction t with
  | zero => simp [pre]
  | succ t ih => have := bit_lt l (b + t); rw [Nat.pow_succ]; simp only [pre]; omega
def five (l : List UInt8) (b : Nat) : Nat := pre l b 5
theorem five_lt (l : List UInt8) (b : Nat) : five l b < 32 := pre_lt l b 5
/-- How many letters. -/
def many (n : Nat) : Nat := (8 * n + 4) / 5
def arm (l : List UInt8) : List UInt8 := (List.range (many l.length)).map fun i => letOf (five l (5 * i))
theorem arm_len (l : List UInt8) : (arm l).length = many l.length := by simp [arm]
theorem arm_get (l : List UInt8) (i : Nat) (h : i < (arm l).length) : (arm l)[i] = letOf (five l (5 * i)) := by simp [arm]
theorem bit_app (p r : List UInt8) (hp : p.length = 5) (k : Nat) : bit (p ++ r) (40 + k) = bit r k := by
  unfold bit
  have h1 : (40 + k) / 8 = 5 + k / 8 := by omega
  have h2 : (40 + k) % 8 = k % 8 := by omega
  rw [h1, h2]
  congr 3
  rw [List.getD_eq_getElem?_getD, List.getD_eq_getElem?_getD, List.getElem?_append_right (by omega)]
  congr 2; omega
theorem bit_app_lt (p r : List UInt8) (hp : p.length = 5) (k : Nat) (hk : k < 40) : bit (p ++ r) k = bit p k := by
  unfold bit
  congr 3
  rw [List.getD_eq_getElem?_getD, List.getD_eq_getElem?_getD, List.getElem?_append_left (by omega)]
theorem pre_app (p r : List UInt8) (hp : p.length = 5) (b t : Nat) : pre (p ++ r) (40 + b) t = pre r b t := by
  induction t with
  | zero => rfl
  | succ t ih => simp only [pre]; rw [ih, Nat.add_assoc, bit_app p r hp]
theorem pre_app_lt (p r : List UInt8) (hp : p.length = 5) (b t : Nat) (h : b + t ≤ 40) : pre (p ++ r) b t = pre p b t := by
  induction t with
  | zero => rfl
  | succ t ih => simp only [pre]; rw [ih (by omega), bit_app_lt p r hp _ (by omega)]
theorem arm_app (p r : List UInt8) (hp : p.length = 5) : arm (p ++ r) = arm p ++ arm r := by
  apply List.ext_getElem
  · rw [List.length_append, arm_len, arm_len, arm_len, List.length_append, hp]; unfold many; omega
  · intro i h1 h2
    rw [arm_get]
    by_cases hi : i < 8
    · have h8 : i < (arm p).length := by rw [arm_len, hp]; exact hi
      rw [List.getElem_append_left h8, arm_get]
      unfold five
      rw [pre_app_lt p r hp _ _ (by omega)]
    · have h8 : (arm p).length = 8 := by rw [arm_len, hp]; rfl
      rw [List.getElem_append_right (by omega), arm_get]
      unfold five
      rw [← pre_app p r hp]
      congr 2; omega
theorem many_zero : many 0 = 0 := rfl
theorem arm_nil : arm [] = [] := rfl
theorem many_lt (n i : Nat) : i < many n ↔ 5 * i < 8 * n := by unfold many; omega

/-- The bytes of a part in one number. -/
def val (l : List UInt8) (t : Nat) : Nat := match t with
  | 0 => 0
  | t + 1 => val l t + (l.getD t 0).toNat * 2 ^ (8 * (4 - t))
set_option maxHeartbeats 4000000 in
theorem val_five (l : List UInt8) (i : Nat) (hi : i < 8) : val l 5 / 2 ^ (35 - 5 * i) % 32 = five l (5 * i) := by
  have h0 := (l.getD 0 0).toNat_lt
  have h1 := (l.getD 1 0).toNat_lt
  have h2 := (l.getD 2 0).toNat_lt
  have h3 := (l.getD 3 0).toNat_lt
  have h4 := (l.getD 4 0).toNat_lt
  have hc : i = 0 ∨ i = 1 ∨ i = 2 ∨ i = 3 ∨ i = 4 ∨ i = 5 ∨ i = 6 ∨ i = 7 := by omega
  rcases hc with rfl | rfl | rfl | rfl | rfl | rfl | rfl | rfl
  all_goals
    simp only [val, five, pre, bit, Nat.reduceMul, Nat.reduceAdd, Nat.reduceDiv, Nat.reduceMod, Nat.reduceSub, Nat.reducePow]
    generalize (l.getD 0 0).toNat = b0 at *
    generalize (l.getD 1 0).toNat = b1 at *
    generalize (l.getD 2 0).toNat = b2 at *
    generalize (l.getD 3 0).toNat = b3 at *
    generalize (l.getD 4 0).toNat = b4 at *
    omega
theorem val_lt (l : List UInt8) (t : Nat) (ht : t ≤ 5) : val l t < 2 ^ 40 := by
  have h0 := (l.getD 0 0).toNat_lt
  have h1 := (l.getD 1 0).toNat_lt
  have h2 := (l.getD 2 0).toNat_lt
  have h3 := (l.getD 3 0).toNat_lt
  have h4 := (l.getD 4 0).toNat_lt
  have hc : t = 0 ∨ t = 1 ∨ t = 2 ∨ t = 3 ∨ t = 4 ∨ t = 5 := by omega
  rcases hc with rfl | rfl | rfl | rfl | rfl | rfl
  all_goals
    simp only [val, Nat.reduceMul, Nat.reduceSub, Nat.reducePow]
    omega
/-- What is there so far has no bit of the next byte or below it. -/
theorem val_low (l : List UInt8) (t : Nat) (ht : t < 5) : val l t % 2 ^ (8 * (4 - t) + 8) = 0 := by
  have hc : t = 0 ∨ t = 1 ∨ t = 2 ∨ t = 3 ∨ t = 4 := by omega
  rcases hc with rfl | rfl | rfl | rfl | rfl
  all_goals
    simp only [val, Nat.reduceMul, Nat.reduceSub, Nat.reducePow, Nat.reduceAdd]
    try omega
theorem val_end (l : List UInt8) (n : Nat) (hn : l.length ≤ n) (h5 : n ≤ 5) : val l 5 = val l n := by
  have key : ∀ t, n ≤ t → val l t = val l n := by
    intro t
    induction t with
    | zero => intro h; obtain rfl : n = 0 := by omega
              rfl
    | succ t ih =>
      intro h
      by_cases e : n = t + 1
      · rw [e]
      · rw [← ih (by omega)]
        simp only [val]
        rw [List.getD_eq_getElem?_getD, List.getElem?_eq_none (by omega)]
        simp
  exact key 5 h5
end Go.Proofs.YtppkgcedkdeccaaDoor.D
/- spec.l2Letters, l2Armor, Armor. -/
namespace Go.Proofs.YtppkgcedkdeccaaDoor.D
set_option maxRecDepth 20000
open Go.RowKit

theorem own_snocU {w' : World} {base : Nat} {v' : Value} {pre : List UInt8} {c : UInt8} (h : w'.ownsRow base 5 1 v' (pre.length + 1) (pre.map byteV ++ [byteV c])) : w'.ownsRow base 5 1 v' (pre ++ [c]).length ((pre ++ [c]).map byteV) := by
  simpa using h
theorem own_dr {w : World} {base : Nat} {v : Value} {n : Nat} {xs : List Value} (h : w.ownsRow base 5 1 v n xs) (k : Nat) : (w.drewN k).ownsRow base 5 1 v n xs := h
theorem conv_own {w : World} {base : Nat} {v : Value} {l : List UInt8} (h : w.ownsRow base 5 1 v l.length (l.map byteV)) :
    (convert 22 9 v).run Tryd.prog w = .ok (.string ⟨l.toArray⟩) w := by
  rcases h.2 with ⟨rfl, e⟩ | ⟨g, cap, cur, rfl, _, hh, _, _, hsz, htk⟩
  · have : l = [] := List.length_eq_zero_iff.1 e
    subst this
    exact Go.Lib.run_convert_nil_bytes w 22 9 5 0 Tryd.underlying22 Tryd.underlying5 Tryd.underlying9
  · have := Go.Lib.run_convert_whole (P := Tryd.prog) w 22 5 9 Tryd.underlying22 Tryd.underlying5 Tryd.underlying9 g 0 ⟨l.toArray⟩ (fun i hi => by
      have hi' : i < l.length := hi
      have hr : RowIs w g cur 5 := hh
      have f0 : (l.map byteV)[i]? = some (.int .u8 (l[i].toNat : Int)) := by simp [byteV, hi']
      rw [← htk, List.getElem?_take] at f0
      rw [Nat.zero_add, hr.cell, ← Array.getElem?_toList]
      split at f0
      · exact f0
      · cases f0) cap
    exact this

def letS : ByteArray := ⟨#[48, 49, 50, 51, 52, 53, 54, 55, 56, 57, 97, 98, 99, 100, 101, 102, 103, 104, 105, 106, 107, 108, 109, 110, 111, 112, 113, 114, 115, 116, 117, 118]⟩
theorem letS_get (n : Nat) (h : n < 32) : letS[n]'(by exact h) = letOf n := by
  have key : ∀ n : Fin 32, letS[n.1]'(n.2) = letOf n.1 := by decide
  exact key ⟨n, h⟩
/-- 'armorLetters[n]'. -/
theorem run_letter (n : Nat) (h : n < 32) (w : World) : (Instr.index 9 (.string letS) (.int .i64 (n : Int))).run Tryd.prog w = .ok (byteV (letOf n)) w := by
  rw [run_index_string (P := Tryd.prog) w 9 letS .i64 (n : Int) Tryd.underlying9, dif_pos ⟨by omega, by show (n : Int) < (32 : Int); omega⟩]
  show Result.ok (Value.int .u8 ((letS[n]'(by exact h)).toNat : Int)) w = _
  rw [letS_get n h]; rfl
theorem l2Letters_any (w : World) : Calls Tryd.prog 78 #[] w fun e w' => e = .returned (.string letS) ∧ w = w' := by
  go_enter Tryd.func78, Tryd.ntmps78
  go_wp2_with fail
  go_ret
  exact ⟨rfl, rfl⟩
theorem getD_at (l : List UInt8) (i : Nat) (h : i < l.length) : l.getD i 0 = l[i] := by
  rw [List.getD_eq_getElem?_getD, List.getElem?_eq_getElem h]; rfl
theorem pre_step (l : List UInt8) (b t : Nat) : pre l b (t + 1) = pre l b t * 2 + bit l (b + t) := by simp only [pre]; omega
theorem arm_pre (l : List UInt8) (j : Nat) (h : 5 * j < 8 * l.length) : (arm l).take (j + 1) = (arm l).take j ++ [letOf (five l (5 * j))] := by
  have hj : j < (arm l).length := by rw [arm_len]; exact (many_lt _ _).2 h
  rw [List.take_succ_eq_append_getElem hj, arm_get]

set_option maxHeartbeats 2000000 in
theorem l2Armor_any (a : Option Addr) (len cap : Nat) (l : List UInt8) (w : World) (hl : len ≤ 20000) (hs : SlB w w.heap.size a len l) :
    Calls Tryd.prog 72 #[.slice a len cap] w fun e w' => e = .returned (.string ⟨(arm l).toArray⟩) ∧ Below w.heap.size w w' := by
  obtain ⟨i0, hi, hz0, hz1, hz2⟩ := info_parts info_u8
  have HS := hide hs
  have hll := hide hs.1
  clear hs
  go_enter Tryd.func72, Tryd.ntmps72
  go_wp2_with fail
  go_loopw [3, 4] (fun v i w' => ∃ (j : Nat), j ≤ many len ∧ i = .int .i64 ((5 * j : Nat) : Int) ∧ Hid (w'.ownsRow w.heap.size 5 1 v ((arm l).take j).length (((arm l).take j).map byteV)) ∧ Hid (Below w.heap.size w w')) (fun _ i _ => 5 * many len - (intOf i).toNat)
  case atStart => exact ⟨0, Nat.zero_le _, rfl, hide (World.ownsRow_nil _ _ _ _), hide (Below.refl _ _)⟩
  case round =>
    obtain ⟨j, hj, rfl, hown, hb⟩ := hrel
    have hm : many len ≤ 32001 := by unfold many; omega
    by_cases hlt : 5 * j < 8 * len
    · have hj1 : j < many len := (many_lt _ _).2 hlt
      have hst := hide (arm_pre l j (by rw [← unhide hll]; exact hlt))
      go_wp2_with fail
      go_loop [5, 6] (fun n k => ∃ t : Nat, t ≤ 5 ∧ n = .int .i64 (pre l (5 * j) t : Nat) ∧ k = .int .i64 ((5 * j + t : Nat) : Int)) (fun _ k => 5 * j + 5 - (intOf k).toNat)
      case atStart => exact ⟨0, by omega, rfl, rfl⟩
      case round =>
        obtain ⟨t, ht, rfl, rfl⟩ := hrel
        have hp := pre_lt l (5 * j) t
        have hp2 : 2 ^ t ≤ 32 := Nat.pow_le_pow_right (n := 2) (by decide) ht
        by_cases ht5 : t < 5
        · have hs1 := pre_step l (5 * j) t
          by_cases hin : 5 * j + t < 8 * len
          · obtain ⟨b, off, rfl, _, _, hrow⟩ := ((unhide HS).keep (unhide hb)).at (k := (5 * j + t) / 8) (by omega)
            have hq : (5 * j + t) / 8 < l.length := by rw [← unhide hll]; omega
            have c0 := hrow _ hq
            have hbit := hide (show bit l (5 * j + t) = (l[(5 * j + t) / 8]).toNat / 2 ^ (7 - (5 * j + t) % 8) % 2 by unfold bit; rw [getD_at _ _ hq])
            have hu := (l[(5 * j + t) / 8]).toNat_lt
            clear hrow
            generalize l[(5 * j + t) / 8] = c at c0 hbit hu
            unfold byteV at c0
            obtain ⟨r, hr⟩ : ∃ r, (5 * j + t) % 8 = r := ⟨_, rfl⟩
            have hr7 : r ≤ 7 := by omega
            have hr' : (5 * (j : Int) + (t : Int)) % 8 = (r : Int) := by omega
            rw [hr] at hbit
            clear hr
            have hq2 : ((c.toNat / 2 ^ (7 - r) : Nat) : Int) = (c.toNat : Int) / 2 ^ (7 - r) := by simp
            have hand : bits .and .i64 ((c.toNat : Int) / 2 ^ (7 - r)) 1 = ((bit l (5 * j + t) : Nat) : Int) := by
              rw [← hq2, and1 _ (Int.natCast_nonneg _) (by have := Nat.div_le_self c.toNat (2 ^ (7 - r)); omega), unhide hbit]; simp
            have hlt2 := bit_lt l (5 * j + t)
            have hs2 := hide hs1
            clear hs1 hq2
            go_wp2_with fail
            exact ⟨⟨t + 1, by omega, by rw [unhide hs2]; simp, by go_num⟩, by simp [intOf]; omega⟩
          · have hz : bit l (5 * j + t) = 0 := by
              unfold bit; rw [List.getD_eq_getElem?_getD, List.getElem?_eq_none (by rw [← unhide hll]; omega)]; simp
            have hs2 := hide (show pre l (5 * j) (t + 1) = pre l (5 * j) t * 2 by rw [hs1, hz]; omega)
            clear hs1 hz
            go_wp2_with fail
            exact ⟨⟨t + 1, by omega, by rw [unhide hs2]; simp, by go_num⟩, by simp [intOf]; omega⟩
        · have e5 : t = 5 := by omega
          subst e5
          have h32 := hide (five_lt l (5 * j))
          have hidx := run_letter (five l (5 * j)) (unhide h32)
          unfold five byteV at hidx
          go_wp2_with fail
          refine (l2Letters_any _).mono ?_
          rintro e w' ⟨rfl, rfl⟩
          go_wp2_with (at_builtin; refine wpList_append_own _ rfl _ _ 22 rfl w.heap.size 5 i0 (.int .u8 0) 1 1 Tryd.underlying22 hi hz0 hz1 hz2 rfl (by decide) _ _ _ rfl ((unhide hown).alloc _) ⟨_, 0, none⟩ 1 1 [byteV (letOf (pre l (5 * j) 5))] rfl rfl (cell_one_new _ _ _) (fun x hx => by simp at hx; subst hx; rfl) (by rw [List.length_take]; unfold maxLen; omega) (by rw [List.length_take]; omega) (by have := (unhide hb).size; simp; omega) ?_; intro v' w1 hown1 hgrow1 _)
          exact ⟨⟨j + 1, by omega, by go_num, hide (by rw [unhide hst]; exact own_snocU hown1), hide ((bAl (unhide hb) _).grown hgrow1 (by have := (unhide hb).size; simp; omega) (fun j hj => ((unhide hown).lt j hj).1))⟩, by simp [intOf]; omega⟩
    · have e : (arm l).take j = arm l := by
        apply List.take_of_length_le
        rw [arm_len, ← unhide hll]
        apply Nat.le_of_not_lt
        intro h
        exact hlt ((many_lt _ _).1 h)
      rw [e] at hown
      have cv := conv_own (unhide hown)
      go_wp2_with fail
      go_ret
      exact ⟨rfl, unhide hb⟩
/-- The armour of at most 20000 bytes; of more none. -/
def armD (l : List UInt8) : List UInt8 := if l.length ≤ 20000 then arm l else []
end Go.Proofs.YtppkgcedkdeccaaDoor.D
/- impl.partLetters, dataParts, Armor. -/
namespace Go.Proofs.YtppkgcedkdeccaaDoor.D
set_option maxRecDepth 20000
open Go.RowKit

theorem run_letter' (n : Nat) (h : n < 32) (w : World) : (Instr.index 9 (.string ⟨#[48, 49, 50, 51, 52, 53, 54, 55, 56, 57, 97, 98, 99, 100, 101, 102, 103, 104, 105, 106, 107, 108, 109, 110, 111, 112, 113, 114, 115, 116, 117, 118]⟩) (.int .i64 (n : Int))).run Tryd.prog w = .ok (.int .u8 ((letOf n).toNat : Int)) w := run_letter n h w
/-- One more byte in the number of a part. -/
theorem val_or (l : List UInt8) (t : Nat) (ht : t < 5) : bits .or .i64 ((val l t : Nat) : Int) (((l.getD t 0).toNat : Int) * 2 ^ (8 * (4 - t))) = ((val l (t + 1) : Nat) : Int) := by
  have h1 := val_lt l t (by omega)
  have h2 := val_low l t ht
  have hu := (l.getD t 0).toNat_lt
  have e : val l (t + 1) = val l t + (l.getD t 0).toNat * 2 ^ (8 * (4 - t)) := rfl
  have hx : (l.getD t 0).toNat * 2 ^ (8 * (4 - t)) < 2 ^ (8 * (4 - t) + 8) := by
    rw [Nat.pow_add, Nat.mul_comm]; exact Nat.mul_lt_mul_of_pos_left hu (Nat.two_pow_pos _)
  have hx2 : (2 : Nat) ^ (8 * (4 - t) + 8) ≤ 2 ^ 40 := Nat.pow_le_pow_right (by decide) (by omega)
  have hc : (((l.getD t 0).toNat * 2 ^ (8 * (4 - t)) : Nat) : Int) = ((l.getD t 0).toNat : Int) * 2 ^ (8 * (4 - t)) := by simp
  rw [← hc, bits_join .i64 63 (by decide) wraps_i64 (8 * (4 - t) + 8) _ _ (Int.natCast_nonneg _) (by exact_mod_cast h2) (by omega) (Int.natCast_nonneg _) (by exact_mod_cast hx) (by omega), e]
  simp

set_option maxHeartbeats 2000000 in
theorem partLetters_any (a : Option Addr) (len cap : Nat) (l : List UInt8) (w : World) (hl : len ≤ 5) (hs : SlB w w.heap.size a len l) :
    Calls Tryd.prog 89 #[.slice a len cap] w fun e w' => (∃ c, e = .returned (.slice (some ⟨w.heap.size, 0, none⟩) (arm l).length c)) ∧ RowIs w' w.heap.size (cellsOf (arm l)) 5 ∧ Below w.heap.size w w' := by
  have HS := hide hs
  have hll := hide hs.1
  clear hs
  go_enter Tryd.func89, Tryd.ntmps89
  go_wp2_with fail
  go_loop [3, 10] (fun b i => ∃ t : Nat, t ≤ len ∧ i = .int .i64 t ∧ b = .int .i64 (val l t : Nat)) (fun _ i => len - (intOf i).toNat)
  case atStart => exact ⟨0, Nat.zero_le _, rfl, rfl⟩
  case round =>
    obtain ⟨t, ht, rfl, rfl⟩ := hrel
    by_cases hlt : t < len
    · obtain ⟨b, off, rfl, _, _, hrow⟩ := (unhide HS).at hlt
      have hq : t < l.length := by rw [← unhide hll]; omega
      have c0 := hrow _ hq
      have hor := hide (val_or l t (by omega))
      rw [getD_at _ _ hq] at hor
      have hu := (l[t]).toNat_lt
      have hvl := val_lt l t (by omega)
      clear hrow
      generalize l[t] = c at c0 hor hu
      unfold byteV at c0
      have hmx : (0 : Int) ≤ (c.toNat : Int) * 2 ^ (8 * (4 - t)) ∧ (c.toNat : Int) * 2 ^ (8 * (4 - t)) < 1099511627776 := by
        have hx : c.toNat * 2 ^ (8 * (4 - t)) < 2 ^ (8 * (4 - t) + 8) := by
          rw [Nat.pow_add, Nat.mul_comm]; exact Nat.mul_lt_mul_of_pos_left hu (Nat.two_pow_pos _)
        have hx2 : (2 : Nat) ^ (8 * (4 - t) + 8) ≤ 2 ^ 40 := Nat.pow_le_pow_right (by decide) (by omega)
        have hc : ((c.toNat * 2 ^ (8 * (4 - t)) : Nat) : Int) = (c.toNat : Int) * 2 ^ (8 * (4 - t)) := by simp
        rw [← hc]; omega
      go_wp2_with fail
      exact ⟨⟨t + 1, by omega, by go_num, by rw [unhide hor]⟩, by simp [intOf]; omega⟩
    · have et : t = len := by omega
      subst et
      have hv5 := hide (val_end l t (Nat.le_of_eq (unhide hll).symm) hl)
      have hmk : ((many t : Nat) : Int) = (8 * (t : Int) + 4) / 5 := by unfold many; omega
      have hm8 : many t ≤ 8 := by unfold many; omega
      obtain ⟨w1, hrun, hb1, hr1⟩ := make_bytes (many t) w (by omega)
      rw [hmk] at hrun
      have HB1 := hide hb1
      have HR1 := hide hr1
      have hM := hide hmk
      clear hb1 hr1 hmk
      go_wp2_with fail
      clear hrun
      go_loopw [7, 32] (fun _ i w' => ∃ (k : Nat) (C : List UInt8), k ≤ many t ∧ i = .int .i64 k ∧ Hid (Below w.heap.size w w') ∧ Hid (RowIs w' w.heap.size (cellsOf C) 5) ∧ Hid (C.length = (arm l).length) ∧ Hid (C.take k = (arm l).take k)) (fun _ i _ => many t - (intOf i).toNat)
      case atStart => exact ⟨0, _, Nat.zero_le _, rfl, HB1, HR1, hide (by rw [List.length_replicate, arm_len, ← unhide hll]), hide (by simp)⟩
      case round =>
        obtain ⟨k, C, hk, rfl, hb, hr, hC, hF⟩ := hrel
        by_cases hlt : k < many t
        · have hk8 : k < 8 := by omega
          have hkl : k < (arm l).length := by rw [arm_len, ← unhide hll]; exact hlt
          have hck : k < C.length := by rw [unhide hC]; exact hkl
          have fr := (unhide hr).froz k
          have c1 := (unhide hr).at (cellsOf_get C k hck)
          have hz : w.heap.size < wr.heap.size := (unhide hr).lt
          have hF' := hide (set_take C (arm l) k hkl (unhide hC) (unhide hF))
          rw [arm_get] at hF'
          have hvf := val_five l k hk8
          rw [unhide hv5, show 35 - 5 * k = 40 - 5 * (k + 1) by omega] at hvf
          have hv40 := val_lt l t (by omega)
          have hand : bits .and .i64 (((val l t : Nat) : Int) / 2 ^ (40 - 5 * (k + 1))) 31 = ((five l (5 * k) : Nat) : Int) := by
            have hq2 : ((val l t / 2 ^ (40 - 5 * (k + 1)) : Nat) : Int) = ((val l t : Nat) : Int) / 2 ^ (40 - 5 * (k + 1)) := by simp
            have hle := Nat.div_le_self (val l t) (2 ^ (40 - 5 * (k + 1)))
            have := bits_mask .i64 63 (by decide) wraps_i64 5 (by decide) ((val l t / 2 ^ (40 - 5 * (k + 1)) : Nat) : Int) (Int.natCast_nonneg _) (by omega)
            rw [← hq2]
            rw [show ((2 : Int) ^ 5 - 1) = 31 from rfl] at this
            rw [this, ← hvf]; simp
          have h32 := five_lt l (5 * k)
          clear hvf hv40
          generalize five l (5 * k) = q at hF' hand h32
          have hidx := run_letter' q h32
          generalize C[k] = D at c1
          unfold byteV at c1
          go_wp2_with fail
          exact ⟨⟨k + 1, C.set k (letOf q), by omega, by go_num, hide ((unhide hb).setCell (Nat.le_refl _) _), hide (by rw [← cellsOf_set]; exact (unhide hr).set k _), hide (by rw [List.length_set]; exact unhide hC), hF'⟩, by simp [intOf]; omega⟩
        · have e : k = many t := by omega
          have e2 : C = arm l := by
            have := unhide hF
            rwa [List.take_of_length_le (by rw [unhide hC, arm_len, ← unhide hll]; omega), List.take_of_length_le (by rw [arm_len, ← unhide hll]; omega)] at this
          have e3 := hide (show (arm l).length = many t by rw [arm_len, ← unhide hll])
          go_wp2_with fail
          go_ret
          exact ⟨⟨many t, by rw [unhide e3]; rfl⟩, by rw [← e2]; exact unhide hr, unhide hb⟩

theorem info_sl : (Tryd.prog.info? 22).map (fun i => (i.zero, i.size, i.bytes)) = some (some (.slice none 0 0), 1, 24) := by kernel_rfl
/-- Part q of the data. -/
def partV (b off len q : Nat) : Value := .slice (some ⟨b, off + 5 * q, none⟩) (min (5 * q + 5) len - 5 * q) (min (5 * q + 5) len - 5 * q)
def partsV (b off len n : Nat) : List Value := (List.range n).map (partV b off len)
theorem partsV_len (b off len n : Nat) : (partsV b off len n).length = n := by simp [partsV]
theorem partsV_succ (b off len n : Nat) : partsV b off len (n + 1) = partsV b off len n ++ [partV b off len n] := by simp [partsV, List.range_succ]

set_option maxHeartbeats 2000000 in
theorem dataParts_any (b off len cap : Nat) (w : World) (hl : len ≤ 20000) (hc : len ≤ cap) (hcm : cap ≤ maxLen) :
    Calls Tryd.prog 88 #[.slice (some ⟨b, off, none⟩) len cap, .int .i64 5] w fun e w' => ∃ v, e = .returned v ∧ w'.ownsRow w.heap.size 22 1 v ((len + 4) / 5) (partsV b off len ((len + 4) / 5)) ∧ Below w.heap.size w w' := by
  obtain ⟨i0, hi, hz0, hz1, hz2⟩ := info_parts info_sl
  unfold maxLen at hcm
  go_enter Tryd.func88, Tryd.ntmps88
  go_wp2_with fail
  go_loopw [5, 6] (fun v i w' => ∃ (q : Nat), q ≤ (len + 4) / 5 ∧ i = .int .i64 ((5 * q : Nat) : Int) ∧ Hid (w'.ownsRow w.heap.size 22 1 v q (partsV b off len q)) ∧ Hid (Below w.heap.size w w')) (fun _ i _ => len + 5 - (intOf i).toNat)
  case atStart => exact ⟨0, Nat.zero_le _, rfl, hide (World.ownsRow_nil _ _ _ _), hide (Below.refl _ _)⟩
  case round =>
    obtain ⟨q, hq, rfl, hown, hb⟩ := hrel
    by_cases hlt : 5 * q < len
    · obtain ⟨E, hE⟩ : ∃ E, min (5 * q + 5) len = E := ⟨_, rfl⟩
      have hst := hide (partsV_succ b off len q)
      unfold partV at hst
      rw [hE] at hst
      have hmin : min (5 * (q : Int) + 5) (len : Int) = (E : Int) := by omega
      have hE1 : E ≤ len := by omega
      have hE2 : 5 * q ≤ E := by omega
      have hE3 : E ≤ cap := by omega
      clear hE
      go_wp2_with (at_builtin; refine wpList_append_own _ rfl _ _ 126 rfl w.heap.size 22 i0 (.slice none 0 0) 1 24 Tryd.underlying126 hi hz0 hz1 hz2 rfl (by decide) _ _ _ rfl ((unhide hown).alloc _) ⟨_, 0, none⟩ 1 1 [.slice (some ⟨b, off + 5 * q, none⟩) (E - 5 * q) (E - 5 * q)] rfl rfl (cell_one_new _ _ _) (fun x hx => by simp at hx; subst hx; rfl) (by unfold maxLen; omega) (by omega) (by have := (unhide hb).size; simp; omega) ?_; intro v' w1 hown1 hgrow1 _)
      exact ⟨⟨q + 1, by omega, by go_num, hide (by rw [unhide hst]; exact hown1), hide ((bAl (unhide hb) _).grown hgrow1 (by have := (unhide hb).size; simp; omega) (fun j hj => ((unhide hown).lt j hj).1))⟩, by simp [intOf]; omega⟩
    · have e : q = (len + 4) / 5 := by omega
      rw [e] at hown
      go_wp2_with fail
      go_ret
      exact ⟨_, rfl, unhide hown, unhide hb⟩
end Go.Proofs.YtppkgcedkdeccaaDoor.D
