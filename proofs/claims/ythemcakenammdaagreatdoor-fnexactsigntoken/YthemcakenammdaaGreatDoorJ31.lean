/- DArmI, DArmJ, one behind the other. -/
import Derived.Test.YthemcakenammdaaGreatDoorJ30
/- impl.partLetters, dataParts, Armor. -/
namespace Go.Proofs.YthemcakenammdaaGreatDoor.D
set_option maxRecDepth 20000
open Go.RowKit

theorem run_letter' (n : Nat) (h : n < 32) (w : World) : (Instr.index 9 (.string ⟨#[48, 49, 50, 51, 52, 53, 54, 55, 56, 57, 97, 98, 99, 100, 101, 102, 103, 104, 105, 106, 107, 108, 109, 110, 111, 112, 113, 114, 115, 116, 117, 118]⟩) (.int .i64 (n : Int))).run Tryz.prog w = .ok (.int .u8 ((letOf n).toNat : Int)) w := run_letter n h w
/-- One more byte in the number of a part. -/
theorem val_or (l : List UInt8) (t : Nat) (ht : t < 5) : bits .or .i64 ((val l t : Nat) : Int) (((l.getD t 0).toNat : Int) * 2 ^ (8 * (4 - t))) = ((val l (t + 1) : Nat) : Int) := by
  have h1 := val_lt l t (by omega)
  have h2 := val_low l t ht
  have hu := (l.getD t 0).toNat_lt
  have e : val l (t + 1) = val l t + (l.getD t 0).toNat * 2 ^ (8 * (4 - t)) := rfl
  have hx : (l.getD t 0).toNat * 2 ^ (8 * (4 - t)) < 2 ^ (8 * (4 - t) + 8) := by
    rw [Nat.pow_add, Nat.mul_comm]; exact Nat.mul_lt_mul_of_pos_left hu (Nat.two_pow_pos _)
  have hx2 : (2 : Nat) ^ (8 * (4 - t) + 8) ≤ 2 ^ 40 := Nat.pow_le_pow_right (by decide) (by omega)
  have hc : (((l.getD t 0).toNat * 2 ^ (8 * (4 - t)) : Nat) : Int) = ((l.getD t 0).toNat : Int) * 2 ^ (8 * (4 - t)) := by simp
  rw [← hc, bits_join .i64 63 (by decide) wraps_i64 (8 * (4 - t) + 8) _ _ (Int.natCast_nonneg _) (by exact_mod_cast h2) (by omega) (Int.natCast_nonneg _) (by exact_mod_cast hx) (by omega), e]
  simp

set_option maxHeartbeats 2000000 in
theorem partLetters_any (a : Option Addr) (len cap : Nat) (l : List UInt8) (w : World) (hl : len ≤ 5) (hs : SlB w w.heap.size a len l) :
    Calls Tryz.prog 50 #[.slice a len cap] w fun e w' => (∃ c, e = .returned (.slice (some ⟨w.heap.size, 0, none⟩) (arm l).length c)) ∧ RowIs w' w.heap.size (cellsOf (arm l)) 5 ∧ Below w.heap.size w w' := by
  have HS := hide hs
  have hll := hide hs.1
  clear hs
  go_enter Tryz.func50, Tryz.ntmps50
  go_wp2_with fail
  go_loop [3, 10] (fun b i => ∃ t : Nat, t ≤ len ∧ i = .int .i64 t ∧ b = .int .i64 (val l t : Nat)) (fun _ i => len - (intOf i).toNat)
  case atStart => exact ⟨0, Nat.zero_le _, rfl, rfl⟩
  case round =>
    obtain ⟨t, ht, rfl, rfl⟩ := hrel
    by_cases hlt : t < len
    · obtain ⟨b, off, rfl, _, _, hrow⟩ := (unhide HS).at hlt
      have hq : t < l.length := by rw [← unhide hll]; omega
      have c0 := hrow _ hq
      have hor := hide (val_or l t (by omega))
      rw [getD_at _ _ hq] at hor
      have hu := (l[t]).toNat_lt
      have hvl := val_lt l t (by omega)
      clear hrow
      generalize l[t] = c at c0 hor hu
      unfold byteV at c0
      have hmx : (0 : Int) ≤ (c.toNat : Int) * 2 ^ (8 * (4 - t)) ∧ (c.toNat : Int) * 2 ^ (8 * (4 - t)) < 1099511627776 := by
        have hx : c.toNat * 2 ^ (8 * (4 - t)) < 2 ^ (8 * (4 - t) + 8) := by
          rw [Nat.pow_add, Nat.mul_comm]; exact Nat.mul_lt_mul_of_pos_left hu (Nat.two_pow_pos _)
        have hx2 : (2 : Nat) ^ (8 * (4 - t) + 8) ≤ 2 ^ 40 := Nat.pow_le_pow_right (by decide) (by omega)
        have hc : ((c.toNat * 2 ^ (8 * (4 - t)) : Nat) : Int) = (c.toNat : Int) * 2 ^ (8 * (4 - t)) := by simp
        rw [← hc]; omega
      go_wp2_with fail
      exact ⟨⟨t + 1, by omega, by go_num, by rw [unhide hor]⟩, by simp [intOf]; omega⟩
    · have et : t = len := by omega
      subst et
      have hv5 := hide (val_end l t (Nat.le_of_eq (unhide hll).symm) hl)
      have hmk : ((many t : Nat) : Int) = (8 * (t : Int) + 4) / 5 := by unfold many; omega
      have hm8 : many t ≤ 8 := by unfold many; omega
      obtain ⟨w1, hrun, hb1, hr1⟩ := make_bytes (many t) w (by omega)
      rw [hmk] at hrun
      have HB1 := hide hb1
      have HR1 := hide hr1
      have hM := hide hmk
      clear hb1 hr1 hmk
      go_wp2_with fail
      clear hrun
      go_loopw [7, 32] (fun _ i w' => ∃ (k : Nat) (C : List UInt8), k ≤ many t ∧ i = .int .i64 k ∧ Hid (Below w.heap.size w w') ∧ Hid (RowIs w' w.heap.size (cellsOf C) 5) ∧ Hid (C.length = (arm l).length) ∧ Hid (C.take k = (arm l).take k)) (fun _ i _ => many t - (intOf i).toNat)
      case atStart => exact ⟨0, _, Nat.zero_le _, rfl, HB1, HR1, hide (by rw [List.length_replicate, arm_len, ← unhide hll]), hide (by simp)⟩
      case round =>
        obtain ⟨k, C, hk, rfl, hb, hr, hC, hF⟩ := hrel
        by_cases hlt : k < many t
        · have hk8 : k < 8 := by omega
          have hkl : k < (arm l).length := by rw [arm_len, ← unhide hll]; exact hlt
          have hck : k < C.length := by rw [unhide hC]; exact hkl
          have fr := (unhide hr).froz k
          have c1 := (unhide hr).at (cellsOf_get C k hck)
          have hz : w.heap.size < wr.heap.size := (unhide hr).lt
          have hF' := hide (set_take C (arm l) k hkl (unhide hC) (unhide hF))
          rw [arm_get] at hF'
          have hvf := val_five l k hk8
          rw [unhide hv5, show 35 - 5 * k = 40 - 5 * (k + 1) by omega] at hvf
          have hv40 := val_lt l t (by omega)
          have hand : bits .and .i64 (((val l t : Nat) : Int) / 2 ^ (40 - 5 * (k + 1))) 31 = ((five l (5 * k) : Nat) : Int) := by
            have hq2 : ((val l t / 2 ^ (40 - 5 * (k + 1)) : Nat) : Int) = ((val l t : Nat) : Int) / 2 ^ (40 - 5 * (k + 1)) := by simp
            have hle := Nat.div_le_self (val l t) (2 ^ (40 - 5 * (k + 1)))
            have := bits_mask .i64 63 (by decide) wraps_i64 5 (by decide) ((val l t / 2 ^ (40 - 5 * (k + 1)) : Nat) : Int) (Int.natCast_nonneg _) (by omega)
            rw [← hq2]
            rw [show ((2 : Int) ^ 5 - 1) = 31 from rfl] at this
            rw [this, ← hvf]; simp
          have h32 := five_lt l (5 * k)
          clear hvf hv40
          generalize five l (5 * k) = q at hF' hand h32
          have hidx := run_letter' q h32
          generalize C[k] = D at c1
          unfold byteV at c1
          go_wp2_with fail
          exact ⟨⟨k + 1, C.set k (letOf q), by omega, by go_num, hide ((unhide hb).setCell (Nat.le_refl _) _), hide (by rw [← cellsOf_set]; exact (unhide hr).set k _), hide (by rw [List.length_set]; exact unhide hC), hF'⟩, by simp [intOf]; omega⟩
        · have e : k = many t := by omega
          have e2 : C = arm l := by
            have := unhide hF
            rwa [List.take_of_length_le (by rw [unhide hC, arm_len, ← unhide hll]; omega), List.take_of_length_le (by rw [arm_len, ← unhide hll]; omega)] at this
          have e3 := hide (show (arm l).length = many t by rw [arm_len, ← unhide hll])
          go_wp2_with fail
          go_ret
          exact ⟨⟨many t, by rw [unhide e3]; rfl⟩, by rw [← e2]; exact unhide hr, unhide hb⟩

theorem info_sl : (Tryz.prog.info? 44).map (fun i => (i.zero, i.size, i.bytes)) = some (some (.slice none 0 0), 1, 24) := by kernel_rfl
/-- Part q of the data. -/
def partV (b off len q : Nat) : Value := .slice (some ⟨b, off + 5 * q, none⟩) (min (5 * q + 5) len - 5 * q) (min (5 * q + 5) len - 5 * q)
def partsV (b off len n : Nat) : List Value := (List.range n).map (partV b off len)
theorem partsV_len (b off len n : Nat) : (partsV b off len n).length = n := by simp [partsV]
theorem partsV_succ (b off len n : Nat) : partsV b off len (n + 1) = partsV b off len n ++ [partV b off len n] := by simp [partsV, List.range_succ]

set_option maxHeartbeats 2000000 in
theorem dataParts_any (b off len cap : Nat) (w : World) (hl : len ≤ 20000) (hc : len ≤ cap) (hcm : cap ≤ maxLen) :
    Calls Tryz.prog 49 #[.slice (some ⟨b, off, none⟩) len cap, .int .i64 5] w fun e w' => ∃ v, e = .returned v ∧ w'.ownsRow w.heap.size 44 1 v ((len + 4) / 5) (partsV b off len ((len + 4) / 5)) ∧ Below w.heap.size w w' := by
  obtain ⟨i0, hi, hz0, hz1, hz2⟩ := info_parts info_sl
  unfold maxLen at hcm
  go_enter Tryz.func49, Tryz.ntmps49
  go_wp2_with fail
  go_loopw [5, 6] (fun v i w' => ∃ (q : Nat), q ≤ (len + 4) / 5 ∧ i = .int .i64 ((5 * q : Nat) : Int) ∧ Hid (w'.ownsRow w.heap.size 44 1 v q (partsV b off len q)) ∧ Hid (Below w.heap.size w w')) (fun _ i _ => len + 5 - (intOf i).toNat)
  case atStart => exact ⟨0, Nat.zero_le _, rfl, hide (World.ownsRow_nil _ _ _ _), hide (Below.refl _ _)⟩
  case round =>
    obtain ⟨q, hq, rfl, hown, hb⟩ := hrel
    by_cases hlt : 5 * q < len
    · obtain ⟨E, hE⟩ : ∃ E, min (5 * q + 5) len = E := ⟨_, rfl⟩
      have hst := hide (partsV_succ b off len q)
      unfold partV at hst
      rw [hE] at hst
      have hmin : min (5 * (q : Int) + 5) (len : Int) = (E : Int) := by omega
      have hE1 : E ≤ len := by omega
      have hE2 : 5 * q ≤ E := by omega
      have hE3 : E ≤ cap := by omega
      clear hE
      go_wp2_with (at_builtin; refine wpList_append_own _ rfl _ _ 68 rfl w.heap.size 44 i0 (.slice none 0 0) 1 24 Tryz.underlying68 hi hz0 hz1 hz2 rfl (by decide) _ _ _ rfl ((unhide hown).alloc _) ⟨_, 0, none⟩ 1 1 [.slice (some ⟨b, off + 5 * q, none⟩) (E - 5 * q) (E - 5 * q)] rfl rfl (cell_one_new _ _ _) (fun x hx => by simp at hx; subst hx; rfl) (by unfold maxLen; omega) (by omega) (by have := (unhide hb).size; simp; omega) ?_; intro v' w1 hown1 hgrow1 _)
      exact ⟨⟨q + 1, by omega, by go_num, hide (by rw [unhide hst]; exact hown1), hide ((bAl (unhide hb) _).grown hgrow1 (by have := (unhide hb).size; simp; omega) (fun j hj => ((unhide hown).lt j hj).1))⟩, by simp [intOf]; omega⟩
    · have e : q = (len + 4) / 5 := by omega
      rw [e] at hown
      go_wp2_with fail
      go_ret
      exact ⟨_, rfl, unhide hown, unhide hb⟩
end Go.Proofs.YthemcakenammdaaGreatDoor.D
/- impl.Armor. -/
namespace Go.Proofs.YthemcakenammdaaGreatDoor.D
set_option maxRecDepth 20000
open Go.RowKit

theorem arm_apps (q : Nat) : ∀ (p r : List UInt8), p.length = 5 * q → arm (p ++ r) = arm p ++ arm r := by
  induction q with
  | zero => intro p r h; obtain rfl : p = [] := List.length_eq_zero_iff.1 (by omega)
            simp [arm_nil]
  | succ q ih =>
    intro p r h
    have e : p = p.take 5 ++ p.drop 5 := (List.take_append_drop 5 p).symm
    have h5 : (p.take 5).length = 5 := by rw [List.length_take]; omega
    have hd : (p.drop 5).length = 5 * q := by rw [List.length_drop]; omega
    rw [e, List.append_assoc, arm_app _ _ h5, ih _ _ hd, arm_app _ _ h5, List.append_assoc]
/-- Part q of the bytes. -/
def partL (l : List UInt8) (q : Nat) : List UInt8 := (l.drop (5 * q)).take 5
theorem take_part (l : List UInt8) (q : Nat) : l.take (5 * (q + 1)) = l.take (5 * q) ++ partL l q := by
  rw [show 5 * (q + 1) = 5 * q + 5 by omega, List.take_add]; rfl
theorem arm_part (l : List UInt8) (q : Nat) (h : 5 * q ≤ l.length) : arm (l.take (5 * (q + 1))) = arm (l.take (5 * q)) ++ arm (partL l q) := by
  rw [take_part, arm_apps q _ _ (by rw [List.length_take]; omega)]
theorem partL_len (l : List UInt8) (q : Nat) : (partL l q).length = min (5 * q + 5) l.length - 5 * q := by
  unfold partL; rw [List.length_take, List.length_drop]; omega
theorem partL_get (l : List UInt8) (q i : Nat) (h : i < (partL l q).length) (h2 : 5 * q + i < l.length) : (partL l q)[i] = l[5 * q + i] := by
  simp [partL]
theorem part_sl {w : World} {b off B : Nat} {l : List UInt8} (hB : b < B) (hz : b < w.heap.size) (hc : ∀ i (h : i < l.length), w.cell? ⟨b, off + i, none⟩ = some (byteV l[i])) (q : Nat) :
    SlB w B (some ⟨b, off + 5 * q, none⟩) (min (5 * q + 5) l.length - 5 * q) (partL l q) := by
  refine ⟨(partL_len l q).symm, .inr ⟨b, off + 5 * q, rfl, hB, hz, fun i hi => ?_⟩⟩
  have h2 : 5 * q + i < l.length := by rw [partL_len] at hi; omega
  rw [partL_get l q i hi h2, Nat.add_assoc]
  exact hc _ h2
theorem row_news {w : World} {b : Nat} {l : List UInt8} (h : RowIs w b (cellsOf l) 5) : ∀ j u, (l.map byteV)[j]? = some u → w.cell? ((⟨b, 0, none⟩ : Addr).add j) = some u := by
  intro j u hj
  have e : (⟨b, 0, none⟩ : Addr).add j = ⟨b, j, none⟩ := by simp [Addr.add]; exact Eq.symm
  rw [e, h.cell]
  simpa [cellsOf] using hj
theorem one_cell {l : List UInt8} : ∀ u ∈ l.map byteV, u.oneCell' = true := by
  intro u hu
  obtain ⟨c, _, rfl⟩ := List.mem_map.1 hu
  rfl

theorem parts_none (a : Option Addr) (cap : Nat) (w : World) :
    Calls Tryz.prog 49 #[.slice a 0 cap, .int .i64 5] w fun e w' => e = .returned (.slice none 0 0) ∧ Below w.heap.size w w' := by
  go_enter Tryz.func49, Tryz.ntmps49
  go_wp2_with fail
  go_loopw [5, 6] (fun v i w' => i = .int .i64 0 ∧ v = .slice none 0 0 ∧ w = w') (fun _ _ _ => 0)
  case atStart => exact ⟨rfl, rfl, rfl⟩
  case round =>
    obtain ⟨rfl, rfl, rfl⟩ := hrel
    go_wp2_with fail
    go_ret
    exact ⟨rfl, Below.refl _ _⟩

set_option maxHeartbeats 2000000 in
theorem iArmor_any (a : Option Addr) (len cap : Nat) (l : List UInt8) (w : World) (hl : len ≤ maxLen) (hc : len ≤ cap) (hcm : cap ≤ maxLen) (hs : SlB w w.heap.size a len l) :
    Calls Tryz.prog 26 #[.slice a len cap] w fun e w' => e = .returned (.string ⟨(armD l).toArray⟩) ∧ Below w.heap.size w w' := by
  unfold maxLen at hl
  have hll := hide hs.1
  by_cases h : len ≤ 20000
  · have hd : armD l = arm l := by unfold armD; rw [if_pos (by rw [← unhide hll]; exact h)]
    rw [hd]
    clear hd
    rcases Nat.eq_zero_or_pos len with h0 | h0
    · subst h0
      have el : l = [] := List.length_eq_zero_iff.1 (unhide hll).symm
      subst el
      have cv : (convert 44 9 (.slice none 0 0)).run Tryz.prog = fun w => .ok (.string ⟨#[]⟩) w := by
        funext w
        exact Go.Lib.run_convert_nil_bytes w 44 9 5 0 Tryz.underlying44 Tryz.underlying5 Tryz.underlying9
      clear hs
      go_enter Tryz.func26, Tryz.ntmps26
      go_wp2_with fail
      refine (parts_none a cap _).mono ?_
      rintro e w1 ⟨rfl, hb1⟩
      go_wp2_with fail
      go_loopw [3, 5, 12] (fun v _ i w' => i = .int .i64 0 ∧ v = .slice none 0 0 ∧ w1 = w') (fun _ _ _ _ => 0)
      case atStart => exact ⟨rfl, rfl, rfl⟩
      case round =>
        obtain ⟨rfl, rfl, rfl⟩ := hrel
        go_wp2_with fail
        go_ret
        exact ⟨rfl, hb1⟩
    obtain ⟨b, off, rfl, _, hz, hrow⟩ := hs.at h0
    obtain ⟨i0, hi, hz0, hz1, hz2⟩ := info_parts info_u8
    have HR := hide (fun q => part_sl (B := w.heap.size) hz hz hrow q)
    clear hrow hs
    go_enter Tryz.func26, Tryz.ntmps26
    go_wp2_with fail
    refine (dataParts_any b off len cap _ h hc hcm).mono ?_
    rintro e w1 ⟨v, rfl, hown1, hb1⟩
    rcases hown1.2 with ⟨_, e0⟩ | ⟨g, pc, cur, rfl, hg, hh, _, hpm, hsz, htk⟩
    · omega
    have hgr : RowIs w1 g cur 44 := hh
    have HG := hide hgr
    have HT := hide htk
    have HB1 := hide hb1
    have hgl : g < w1.heap.size := hgr.lt
    unfold maxLen at hpm
    clear hown1 hh hgr htk hb1
    go_wp2_with fail
    go_loopw [3, 5, 12] (fun v _ i w' => ∃ (q : Nat), q ≤ (len + 4) / 5 ∧ i = .int .i64 q ∧ Hid (w'.ownsRow w1.heap.size 5 1 v (arm (l.take (5 * q))).length ((arm (l.take (5 * q))).map byteV)) ∧ Hid (Below w1.heap.size w1 w')) (fun _ _ i _ => (len + 4) / 5 - (intOf i).toNat)
    case atStart => exact ⟨0, Nat.zero_le _, rfl, hide (by rw [Nat.mul_zero, List.take_zero, arm_nil]; exact World.ownsRow_nil _ _ _ _), hide (Below.refl _ _)⟩
    case round =>
      obtain ⟨q, hq, rfl, hown, hb⟩ := hrel
      by_cases hlt : q < (len + 4) / 5
      · have cq : wr.cell? ⟨g, q, none⟩ = some (partV b off len q) := by
          have h1 := (unhide HG).keepB (unhide hb) hgl
          rw [h1.cell, ← Array.getElem?_toList]
          have h2 : (partsV b off len ((len + 4) / 5))[q]? = some (partV b off len q) := by simp [partsV, hlt]
          rw [← unhide HT, List.getElem?_take] at h2
          split at h2
          · exact h2
          · cases h2
        unfold partV at cq
        have hsl := hide (((unhide HR q).keep (unhide HB1)).keepB ((unhide hb).mono (unhide HB1).size))
        rw [← unhide hll] at hsl
        have hst := hide (arm_part l q (by rw [← unhide hll]; omega))
        have hsm : (arm (partL l q)).length ≤ 8 := by rw [arm_len, partL_len]; unfold many; omega
        have hsm2 : (arm (l.take (5 * q))).length ≤ 40000 := by rw [arm_len, List.length_take, ← unhide hll]; unfold many; omega
        obtain ⟨m, hm⟩ : ∃ m, min (5 * q + 5) len - 5 * q = m := ⟨_, rfl⟩
        rw [hm] at cq hsl
        have hm5 : m ≤ 5 := by omega
        clear hm
        go_wp2_with fail
        refine (partLetters_any _ _ _ (partL l q) _ hm5 ((unhide hsl).mono (Nat.le_trans (unhide HB1).size (unhide hb).size))).mono ?_
        rintro e w2 ⟨⟨c2, rfl⟩, hr2, hb2⟩
        have hown2 := hide (own_keep (unhide hown) hb2)
        have hbel2 := hide (hb2.mono (unhide hb).size)
        have hz2' := hb2.size
        have hR2 := hide hr2
        have hzz := (unhide hb).size
        clear hr2 hb2
        go_wp2_with (at_builtin; refine wpList_append_own _ rfl _ _ 44 rfl w1.heap.size 5 i0 (.int .u8 0) 1 1 Tryz.underlying44 hi hz0 hz1 hz2 rfl (by decide) _ _ _ rfl (unhide hown2) ⟨_, 0, none⟩ _ _ ((arm (partL l q)).map byteV) rfl (by simp) (row_news (unhide hR2)) one_cell (by unfold maxLen; omega) (by omega) (by omega) ?_; intro v' w3 hown3 hgrow3 _)
        exact ⟨⟨q + 1, by omega, by go_num, hide (by rw [unhide hst, List.length_append, List.map_append]; exact hown3), hide (((unhide hb).trans (unhide hbel2)).grown hgrow3 (by omega) (fun j hj => ((unhide hown2).lt j hj).1))⟩, by simp [intOf]; omega⟩
      · have e : l.take (5 * q) = l := List.take_of_length_le (by rw [← unhide hll]; omega)
        rw [e] at hown
        have cv := conv_own (unhide hown)
        go_wp2_with fail
        go_ret
        exact ⟨rfl, bTr (unhide HB1) (unhide hb)⟩
  · have hd : armD l = [] := by unfold armD; rw [if_neg (by rw [← unhide hll]; exact h)]
    rw [hd]
    clear hd
    go_enter Tryz.func26, Tryz.ntmps26
    go_wp2_with fail
    go_ret
    exact ⟨rfl, Below.refl _ _⟩
end Go.Proofs.YthemcakenammdaaGreatDoor.D
