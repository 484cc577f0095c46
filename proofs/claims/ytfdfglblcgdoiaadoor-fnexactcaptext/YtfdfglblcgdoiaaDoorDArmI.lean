/- impl.partLetters, dataParts, Armor. -/
import Derived.Test.YtfdfglblcgdoiaaDoorDArmS
namespace Go.Proofs.YtfdfglblcgdoiaaDoor.D
set_option maxRecDepth 20000
open Go.RowKit

theorem run_letter' (n : Nat) (h : n < 32) (w : World) : (Instr.index 9 (.string ⟨#[48, 49, 50, 51, 52, 53, 54, 55, 56, 57, 97, 98, 99, 100, 101, 102, 103, 104, 105, 106, 107, 108, 109, 110, 111, 112, 113, 114, 115, 116, 117, 118]⟩) (.int .i64 (n : Int))).run Tryd.prog w = .ok (.int .u8 ((letOf n).toNat : Int)) w := run_letter n h w
/-- One more byte in the number of a part. -/
theorem val_or (l : List UInt8) (t : Nat) (ht : t < 5) : bits .or .i64 ((val l t : Nat) : Int) (((l.getD t 0).toNat : Int) * 2 ^ (8 * (4 - t))) = ((val l (t + 1) : Nat) : Int) := by
  have h1 := val_lt l t (by omega)
  have h2 := val_low l t ht
  have hu := (l.getD t 0).toNat_lt
  have e : val l (t + 1) = val l t + (l.getD t 0).toNat * 2 ^ (8 * (4 - t)) := rfl
  have hx : (l.getD t 0).toNat * 2 ^ (8 * (4 - t)) < 2 ^ (8 * (4 - t) + 8) := by
    rw [Nat.pow_add, Nat.mul_comm]; exact Nat.mul_lt_mul_of_pos_left hu (Nat.two_pow_pos _)
  have hx2 : (2 : Nat) ^ (8 * (4 - t) + 8) ≤ 2 ^ 40 := Nat.pow_le_pow_right (by decide) (by omega)
  have hc : (((l.getD t 0).toNat * 2 ^ (8 * (4 - t)) : Nat) : Int) = ((l.getD t 0).toNat : Int) * 2 ^ (8 * (4 - t)) := by simp
  rw [← hc, bits_join .i64 63 (by decide) wraps_i64 (8 * (4 - t) + 8) _ _ (Int.natCast_nonneg _) (by exact_mod_cast h2) (by omega) (Int.natCast_nonneg _) (by exact_mod_cast hx) (by omega), e]
  simp

set_option maxHeartbeats 2000000 in
theorem partLetters_any (a : Option Addr) (len cap : Nat) (l : List UInt8) (w : World) (hl : len ≤ 5) (hs : SlB w w.heap.size a len l) :
    Calls Tryd.prog 39 #[.slice a len cap] w fun e w' => (∃ c, e = .returned (.slice (some ⟨w.heap.size, 0, none⟩) (arm l).length c)) ∧ RowIs w' w.heap.size (cellsOf (arm l)) 5 ∧ Below w.heap.size w w' := by
  have HS := hide hs
  have hll := hide hs.1
  clear hs
  go_enter Tryd.func39, Tryd.ntmps39
  go_wp2_with fail
  go_loop [3, 10] (fun b i => ∃ t : Nat, t ≤ len ∧ i = .int .i64 t ∧ b = .int .i64 (val l t : Nat)) (fun _ i => len - (intOf i).toNat)
  case atStart => exact ⟨0, Nat.zero_le _, rfl, rfl⟩
  case round =>
    obtain ⟨t, ht, rfl, rfl⟩ := hrel
    by_cases hlt : t < len
    · obtain ⟨b, off, rfl, _, _, hrow⟩ := (unhide HS).at hlt
      have hq : t < l.length := by rw [← unhide hll]; omega
      have c0 := hrow _ hq
      have hor := hide (val_or l t (by omega))
      rw [getD_at _ _ hq] at hor
      have hu := (l[t]).toNat_lt
      have hvl := val_lt l t (by omega)
      clear hrow
      generalize l[t] = c at c0 hor hu
      unfold byteV at c0
      have hmx : (0 : Int) ≤ (c.toNat : Int) * 2 ^ (8 * (4 - t)) ∧ (c.toNat : Int) * 2 ^ (8 * (4 - t)) < 1099511627776 := by
        have hx : c.toNat * 2 ^ (8 * (4 - t)) < 2 ^ (8 * (4 - t) + 8) := by
          rw [Nat.pow_add, Nat.mul_comm]; exact Nat.mul_lt_mul_of_pos_left hu (Nat.two_pow_pos _)
        have hx2 : (2 : Nat) ^ (8 * (4 - t) + 8) ≤ 2 ^ 40 := Nat.pow_le_pow_right (by decide) (by omega)
        have hc : ((c.toNat * 2 ^ (8 * (4 - t)) : Nat) : Int) = (c.toNat : Int) * 2 ^ (8 * (4 - t)) := by simp
        rw [← hc]; omega
      go_wp2_with fail
      exact ⟨⟨t + 1, by omega, by go_num, by rw [unhide hor]⟩, by simp [intOf]; omega⟩
    · have et : t = len := by omega
      subst et
      have hv5 := hide (val_end l t (Nat.le_of_eq (unhide hll).symm) hl)
      have hmk : ((many t : Nat) : Int) = (8 * (t : Int) + 4) / 5 := by unfold many; omega
      have hm8 : many t ≤ 8 := by unfold many; omega
      obtain ⟨w1, hrun, hb1, hr1⟩ := make_bytes (many t) w (by omega)
      rw [hmk] at hrun
      have HB1 := hide hb1
      have HR1 := hide hr1
      have hM := hide hmk
      clear hb1 hr1 hmk
      go_wp2_with fail
      clear hrun
      go_loopw [7, 32] (fun _ i w' => ∃ (k : Nat) (C : List UInt8), k ≤ many t ∧ i = .int .i64 k ∧ Hid (Below w.heap.size w w') ∧ Hid (RowIs w' w.heap.size (cellsOf C) 5) ∧ Hid (C.length = (arm l).length) ∧ Hid (C.take k = (arm l).take k)) (fun _ i _ => many t - (intOf i).toNat)
      case atStart => exact ⟨0, _, Nat.zero_le _, rfl, HB1, HR1, hide (by rw [List.length_replicate, arm_len, ← unhide hll]), hide (by simp)⟩
      case round =>
        obtain ⟨k, C, hk, rfl, hb, hr, hC, hF⟩ := hrel
        by_cases hlt : k < many t
        · have hk8 : k < 8 := by omega
          have hkl : k < (arm l).length := by rw [arm_len, ← unhide hll]; exact hlt
          have hck : k < C.length := by rw [unhide hC]; exact hkl
          have fr := (unhide hr).froz k
          have c1 := (unhide hr).at (cellsOf_get C k hck)
          have hz : w.heap.size < wr.heap.size := (unhide hr).lt
          have hF' := hide (set_take C (arm l) k hkl (unhide hC) (unhide hF))
          rw [arm_get] at hF'
          have hvf := val_five l k hk8
          rw [unhide hv5, show 35 - 5 * k = 40 - 5 * (k + 1) by omega] at hvf
          have hv40 := val_lt l t (by omega)
          have hand : bits .and .i64 (((val l t : Nat) : Int) / 2 ^ (40 - 5 * (k + 1))) 31 = ((five l (5 * k) : Nat) : Int) := by
            have hq2 : ((val l t / 2 ^ (40 - 5 * (k + 1)) : Nat) : Int) = ((val l t : Nat) : Int) / 2 ^ (40 - 5 * (k + 1)) := by simp
            have hle := Nat.div_le_self (val l t) (2 ^ (40 - 5 * (k + 1)))
            have := bits_mask .i64 63 (by decide) wraps_i64 5 (by decide) ((val l t / 2 ^ (40 - 5 * (k + 1)) : Nat) : Int) (Int.natCast_nonneg _) (by omega)
            rw [← hq2]
            rw [show ((2 : Int) ^ 5 - 1) = 31 from rfl] at this
            rw [this, ← hvf]; simp
          have h32 := five_lt l (5 * k)
          clear hvf hv40
          generalize five l (5 * k) = q at hF' hand h32
          have hidx := run_letter' q h32
          generalize C[k] = D at c1
          unfold byteV at c1
          go_wp2_with fail
          exact ⟨⟨k + 1, C.set k (letOf q), by omega, by go_num, hide ((unhide hb).setCell (Nat.le_refl _) _), hide (by rw [← cellsOf_set]; exact (unhide hr).set k _), hide (by rw [List.length_set]; exact unhide hC), hF'⟩, by simp [intOf]; omega⟩
        · have e : k = many t := by omega
          have e2 : C = arm l := by
            have := unhide hF
            rwa [List.take_of_length_le (by rw [unhide hC, arm_len, ← unhide hll]; omega), List.take_of_length_le (by rw [arm_len, ← unhide hll]; omega)] at this
          have e3 := hide (show (arm l).length = many t by rw [arm_len, ← unhide hll])
          go_wp2_with fail
          go_ret
          exact ⟨⟨many t, by rw [unhide e3]; rfl⟩, by rw [← e2]; exact unhide hr, unhide hb⟩

theorem info_sl : (Tryd.prog.info? 23).map (fun i => (i.zero, i.size, i.bytes)) = some (some (.slice none 0 0), 1, 24) := by kernel_rfl
/-- Part q of the data. -/
def partV (b off len q : Nat) : Value := .slice (some ⟨b, off + 5 * q, none⟩) (min (5 * q + 5) len - 5 * q) (min (5 * q + 5) len - 5 * q)
def partsV (b off len n : Nat) : List Value := (List.range n).map (partV b off len)
theorem partsV_len (b off len n : Nat) : (partsV b off len n).length = n := by simp [partsV]
theorem partsV_succ (b off len n : Nat) : partsV b off len (n + 1) = partsV b off len n ++ [partV b off len n] := by simp [partsV, List.range_succ]

set_option maxHeartbeats 2000000 in
theorem dataParts_any (b off len cap : Nat) (w : World) (hl : len ≤ 20000) (hc : len ≤ cap) (hcm : cap ≤ maxLen) :
    Calls Tryd.prog 38 #[.slice (some ⟨b, off, none⟩) len cap, .int .i64 5] w fun e w' => ∃ v, e = .returned v ∧ w'.ownsRow w.heap.size 23 1 v ((len + 4) / 5) (partsV b off len ((len + 4) / 5)) ∧ Below w.heap.size w w' := by
  obtain ⟨i0, hi, hz0, hz1, hz2⟩ := info_parts info_sl
  unfold maxLen at hcm
  go_enter Tryd.func38, Tryd.ntmps38
  go_wp2_with fail
  go_loopw [5, 6] (fun v i w' => ∃ (q : Nat), q ≤ (len + 4) / 5 ∧ i = .int .i64 ((5 * q : Nat) : Int) ∧ Hid (w'.ownsRow w.heap.size 23 1 v q (partsV b off len q)) ∧ Hid (Below w.heap.size w w')) (fun _ i _ => len + 5 - (intOf i).toNat)
  case atStart => exact ⟨0, Nat.zero_le _, rfl, hide (World.ownsRow_nil _ _ _ _), hide (Below.refl _ _)⟩
  case round =>
    obtain ⟨q, hq, rfl, hown, hb⟩ := hrel
    by_cases hlt : 5 * q < len
    · obtain ⟨E, hE⟩ : ∃ E, min (5 * q + 5) len = E := ⟨_, rfl⟩
      have hst := hide (partsV_succ b off len q)
      unfold partV at hst
      rw [hE] at hst
      have hmin : min (5 * (q : Int) + 5) (len : Int) = (E : Int) := by omega
      have hE1 : E ≤ len := by omega
      have hE2 : 5 * q ≤ E := by omega
      have hE3 : E ≤ cap := by omega
      clear hE
      go_wp2_with (at_builtin; refine wpList_append_own _ rfl _ _ 71 rfl w.heap.size 23 i0 (.slice none 0 0) 1 24 Tryd.underlying71 hi hz0 hz1 hz2 rfl (by decide) _ _ _ rfl ((unhide hown).alloc _) ⟨_, 0, none⟩ 1 1 [.slice (some ⟨b, off + 5 * q, none⟩) (E - 5 * q) (E - 5 * q)] rfl rfl (cell_one_new _ _ _) (fun x hx => by simp at hx; subst hx; rfl) (by unfold maxLen; omega) (by omega) (by have := (unhide hb).size; simp; omega) ?_; intro v' w1 hown1 hgrow1 _)
      exact ⟨⟨q + 1, by omega, by go_num, hide (by rw [unhide hst]; exact hown1), hide ((bAl (unhide hb) _).grown hgrow1 (by have := (unhide hb).size; simp; omega) (fun j hj => ((unhide hown).lt j hj).1))⟩, by simp [intOf]; omega⟩
    · have e : q = (len + 4) / 5 := by omega
      rw [e] at hown
      go_wp2_with fail
      go_ret
      exact ⟨_, rfl, unhide hown, unhide hb⟩
end Go.Proofs.YtfdfglblcgdoiaaDoor.D
