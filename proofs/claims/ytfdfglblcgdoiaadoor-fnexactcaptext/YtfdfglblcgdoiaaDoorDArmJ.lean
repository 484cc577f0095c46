/- impl.Armor. -/
import Derived.Test.YtfdfglblcgdoiaaDoorDArmI
namespace Go.Proofs.YtfdfglblcgdoiaaDoor.D
set_option maxRecDepth 20000
open Go.RowKit

theorem arm_apps (q : Nat) : ∀ (p r : List UInt8), p.length = 5 * q → arm (p ++ r) = arm p ++ arm r := by
  induction q with
  | zero => intro p r h; obtain rfl : p = [] := List.length_eq_zero_iff.1 (by omega)
            simp [arm_nil]
  | succ q ih =>
    intro p r h
    have e : p = p.take 5 ++ p.drop 5 := (List.take_append_drop 5 p).symm
    have h5 : (p.take 5).length = 5 := by rw [List.length_take]; omega
    have hd : (p.drop 5).length = 5 * q := by rw [List.length_drop]; omega
    rw [e, List.append_assoc, arm_app _ _ h5, ih _ _ hd, arm_app _ _ h5, List.append_assoc]
/-- Part q of the bytes. -/
def partL (l : List UInt8) (q : Nat) : List UInt8 := (l.drop (5 * q)).take 5
theorem take_part (l : List UInt8) (q : Nat) : l.take (5 * (q + 1)) = l.take (5 * q) ++ partL l q := by
  rw [show 5 * (q + 1) = 5 * q + 5 by omega, List.take_add]; rfl
theorem arm_part (l : List UInt8) (q : Nat) (h : 5 * q ≤ l.length) : arm (l.take (5 * (q + 1))) = arm (l.take (5 * q)) ++ arm (partL l q) := by
  rw [take_part, arm_apps q _ _ (by rw [List.length_take]; omega)]
theorem partL_len (l : List UInt8) (q : Nat) : (partL l q).length = min (5 * q + 5) l.length - 5 * q := by
  unfold partL; rw [List.length_take, List.length_drop]; omega
theorem partL_get (l : List UInt8) (q i : Nat) (h : i < (partL l q).length) (h2 : 5 * q + i < l.length) : (partL l q)[i] = l[5 * q + i] := by
  simp [partL]
theorem part_sl {w : World} {b off B : Nat} {l : List UInt8} (hB : b < B) (hz : b < w.heap.size) (hc : ∀ i (h : i < l.length), w.cell? ⟨b, off + i, none⟩ = some (byteV l[i])) (q : Nat) :
    SlB w B (some ⟨b, off + 5 * q, none⟩) (min (5 * q + 5) l.length - 5 * q) (partL l q) := by
  refine ⟨(partL_len l q).symm, .inr ⟨b, off + 5 * q, rfl, hB, hz, fun i hi => ?_⟩⟩
  have h2 : 5 * q + i < l.length := by rw [partL_len] at hi; omega
  rw [partL_get l q i hi h2, Nat.add_assoc]
  exact hc _ h2
theorem row_news {w : World} {b : Nat} {l : List UInt8} (h : RowIs w b (cellsOf l) 5) : ∀ j u, (l.map byteV)[j]? = some u → w.cell? ((⟨b, 0, none⟩ : Addr).add j) = some u := by
  intro j u hj
  have e : (⟨b, 0, none⟩ : Addr).add j = ⟨b, j, none⟩ := by simp [Addr.add]; exact Eq.symm
  rw [e, h.cell]
  simpa [cellsOf] using hj
theorem one_cell {l : List UInt8} : ∀ u ∈ l.map byteV, u.oneCell' = true := by
  intro u hu
  obtain ⟨c, _, rfl⟩ := List.mem_map.1 hu
  rfl

theorem parts_none (a : Option Addr) (cap : Nat) (w : World) :
    Calls Tryd.prog 38 #[.slice a 0 cap, .int .i64 5] w fun e w' => e = .returned (.slice none 0 0) ∧ Below w.heap.size w w' := by
  go_enter Tryd.func38, Tryd.ntmps38
  go_wp2_with fail
  go_loopw [5, 6] (fun v i w' => i = .int .i64 0 ∧ v = .slice none 0 0 ∧ w = w') (fun _ _ _ => 0)
  case atStart => exact ⟨rfl, rfl, rfl⟩
  case round =>
    obtain ⟨rfl, rfl, rfl⟩ := hrel
    go_wp2_with fail
    go_ret
    exact ⟨rfl, Below.refl _ _⟩

set_option maxHeartbeats 2000000 in
theorem iArmor_any (a : Option Addr) (len cap : Nat) (l : List UInt8) (w : World) (hl : len ≤ maxLen) (hc : len ≤ cap) (hcm : cap ≤ maxLen) (hs : SlB w w.heap.size a len l) :
    Calls Tryd.prog 21 #[.slice a len cap] w fun e w' => e = .returned (.string ⟨(armD l).toArray⟩) ∧ Below w.heap.size w w' := by
  unfold maxLen at hl
  have hll := hide hs.1
  by_cases h : len ≤ 20000
  · have hd : armD l = arm l := by unfold armD; rw [if_pos (by rw [← unhide hll]; exact h)]
    rw [hd]
    clear hd
    rcases Nat.eq_zero_or_pos len with h0 | h0
    · subst h0
      have el : l = [] := List.length_eq_zero_iff.1 (unhide hll).symm
      subst el
      have cv : (convert 23 9 (.slice none 0 0)).run Tryd.prog = fun w => .ok (.string ⟨#[]⟩) w := by
        funext w
        exact Go.Lib.run_convert_nil_bytes w 23 9 5 0 Tryd.underlying23 Tryd.underlying5 Tryd.underlying9
      clear hs
      go_enter Tryd.func21, Tryd.ntmps21
      go_wp2_with fail
      refine (parts_none a cap _).mono ?_
      rintro e w1 ⟨rfl, hb1⟩
      go_wp2_with fail
      go_loopw [3, 5, 12] (fun v _ i w' => i = .int .i64 0 ∧ v = .slice none 0 0 ∧ w1 = w') (fun _ _ _ _ => 0)
      case atStart => exact ⟨rfl, rfl, rfl⟩
      case round =>
        obtain ⟨rfl, rfl, rfl⟩ := hrel
        go_wp2_with fail
        go_ret
        exact ⟨rfl, hb1⟩
    obtain ⟨b, off, rfl, _, hz, hrow⟩ := hs.at h0
    obtain ⟨i0, hi, hz0, hz1, hz2⟩ := info_parts info_u8
    have HR := hide (fun q => part_sl (B := w.heap.size) hz hz hrow q)
    clear hrow hs
    go_enter Tryd.func21, Tryd.ntmps21
    go_wp2_with fail
    refine (dataParts_any b off len cap _ h hc hcm).mono ?_
    rintro e w1 ⟨v, rfl, hown1, hb1⟩
    rcases hown1.2 with ⟨_, e0⟩ | ⟨g, pc, cur, rfl, hg, hh, _, hpm, hsz, htk⟩
    · omega
    have hgr : RowIs w1 g cur 23 := hh
    have HG := hide hgr
    have HT := hide htk
    have HB1 := hide hb1
    have hgl : g < w1.heap.size := hgr.lt
    unfold maxLen at hpm
    clear hown1 hh hgr htk hb1
    go_wp2_with fail
    go_loopw [3, 5, 12] (fun v _ i w' => ∃ (q : Nat), q ≤ (len + 4) / 5 ∧ i = .int .i64 q ∧ Hid (w'.ownsRow w1.heap.size 5 1 v (arm (l.take (5 * q))).length ((arm (l.take (5 * q))).map byteV)) ∧ Hid (Below w1.heap.size w1 w')) (fun _ _ i _ => (len + 4) / 5 - (intOf i).toNat)
    case atStart => exact ⟨0, Nat.zero_le _, rfl, hide (by rw [Nat.mul_zero, List.take_zero, arm_nil]; exact World.ownsRow_nil _ _ _ _), hide (Below.refl _ _)⟩
    case round =>
      obtain ⟨q, hq, rfl, hown, hb⟩ := hrel
      by_cases hlt : q < (len + 4) / 5
      · have cq : wr.cell? ⟨g, q, none⟩ = some (partV b off len q) := by
          have h1 := (unhide HG).keepB (unhide hb) hgl
          rw [h1.cell, ← Array.getElem?_toList]
          have h2 : (partsV b off len ((len + 4) / 5))[q]? = some (partV b off len q) := by simp [partsV, hlt]
          rw [← unhide HT, List.getElem?_take] at h2
          split at h2
          · exact h2
          · cases h2
        unfold partV at cq
        have hsl := hide (((unhide HR q).keep (unhide HB1)).keepB ((unhide hb).mono (unhide HB1).size))
        rw [← unhide hll] at hsl
        have hst := hide (arm_part l q (by rw [← unhide hll]; omega))
        have hsm : (arm (partL l q)).length ≤ 8 := by rw [arm_len, partL_len]; unfold many; omega
        have hsm2 : (arm (l.take (5 * q))).length ≤ 40000 := by rw [arm_len, List.length_take, ← unhide hll]; unfold many; omega
        obtain ⟨m, hm⟩ : ∃ m, min (5 * q + 5) len - 5 * q = m := ⟨_, rfl⟩
        rw [hm] at cq hsl
        have hm5 : m ≤ 5 := by omega
        clear hm
        go_wp2_with fail
        refine (partLetters_any _ _ _ (partL l q) _ hm5 ((unhide hsl).mono (Nat.le_trans (unhide HB1).size (unhide hb).size))).mono ?_
        rintro e w2 ⟨⟨c2, rfl⟩, hr2, hb2⟩
        have hown2 := hide (own_keep (unhide hown) hb2)
        have hbel2 := hide (hb2.mono (unhide hb).size)
        have hz2' := hb2.size
        have hR2 := hide hr2
        have hzz := (unhide hb).size
        clear hr2 hb2
        go_wp2_with (at_builtin; refine wpList_append_own _ rfl _ _ 23 rfl w1.heap.size 5 i0 (.int .u8 0) 1 1 Tryd.underlying23 hi hz0 hz1 hz2 rfl (by decide) _ _ _ rfl (unhide hown2) ⟨_, 0, none⟩ _ _ ((arm (partL l q)).map byteV) rfl (by simp) (row_news (unhide hR2)) one_cell (by unfold maxLen; omega) (by omega) (by omega) ?_; intro v' w3 hown3 hgrow3 _)
        exact ⟨⟨q + 1, by omega, by go_num, hide (by rw [unhide hst, List.length_append, List.map_append]; exact hown3), hide (((unhide hb).trans (unhide hbel2)).grown hgrow3 (by omega) (fun j hj => ((unhide hown2).lt j hj).1))⟩, by simp [intOf]; omega⟩
      · have e : l.take (5 * q) = l := List.take_of_length_le (by rw [← unhide hll]; omega)
        rw [e] at hown
        have cv := conv_own (unhide hown)
        go_wp2_with fail
        go_ret
        exact ⟨rfl, bTr (unhide HB1) (unhide hb)⟩
  · have hd : armD l = [] := by unfold armD; rw [if_neg (by rw [← unhide hll]; exact h)]
    rw [hd]
    clear hd
    go_enter Tryd.func21, Tryd.ntmps21
    go_wp2_with fail
    go_ret
    exact ⟨rfl, Below.refl _ _⟩
end Go.Proofs.YtfdfglblcgdoiaaDoor.D
