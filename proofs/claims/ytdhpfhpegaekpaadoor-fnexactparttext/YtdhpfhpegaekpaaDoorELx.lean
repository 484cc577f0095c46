/- strings.Replace of one byte. -/
import Derived.Test.YtdhpfhpegaekpaaDoorELw
namespace Go.Proofs.YtdhpfhpegaekpaaDoor.V
set_option linter.unusedSimpArgs false
set_option linter.unusedVariables false
open Go.RowKit

theorem bldNew (w : World) : Lib.IsBuilderF 71 5 w.heap.size w.heap.size (Lib.byteCells []) (w.alloc (.cells #[.pointer none, .slice none 0 0] 71)) :=
  .inl ⟨Nat.le_refl _, .slice none 0 0, heap_alloc_new w _, ⟨rfl, .inl ⟨rfl, rfl⟩⟩, by simp [Value.ownBlock]⟩
set_option maxRecDepth 100000 in
set_option maxHeartbeats 4000000 in
theorem replace_one (s new : ByteArray) (c : UInt8) (w : World) (hs : s.size ≤ 100000) (hn1 : 1 ≤ new.size) (hn : new.size ≤ 6) (hne : (⟨#[c]⟩ : ByteArray) ≠ new) :
    Calls Tryd.prog 65 #[.string s, .string ⟨#[c]⟩, .string new, .int .i64 (-1)] w fun e w' =>
      e = .returned (.string ⟨(repl c new.data.toList s.data.toList).toArray⟩) ∧ Below w.heap.size w w' := by
  have hbeq : ([c] == new.toList) = false := by rw [← list_one]; exact (Lib.bytes_beq_false_iff _ _).2 hne
  have hlen : s.data.toList.length = s.size := (Lib.size_eq s).symm
  have hq := hide (count_one s c w)
  obtain ⟨K, hK⟩ : ∃ K, Lib.countByte s.data.toList c = K := ⟨_, rfl⟩
  rw [hK] at hq
  have hKs : K ≤ s.size := by rw [← hK, ← hlen]; exact List.count_le_length
  clear hne
  rcases Nat.eq_zero_or_pos K with h0 | h0
  · subst h0
    rw [repl_none hK]
    have hz : ((0 : Nat) : Int) = 0 := rfl
    go_enter Tryd.func65, Tryd.ntmps65
    go_wp2_with fail
    refine (unhide hq).mono ?_
    rintro e w' ⟨rfl, rfl⟩
    go_wp2_with fail
    go_ret
    exact ⟨rfl, Below.refl _ _⟩
  · have hcz : ((K : Int) == 0) = false := beq_eq_false_iff_ne.2 (by omega)
    have hga := Lib.grow_arg s.size K new.size 1 h0 (by omega) (by have := Nat.mul_le_mul hKs hn; omega)
    rw [Go.IntWalk.wrap64_in ((new.size : Int) - (1 : Nat)) ⟨by omega, by omega⟩] at hga
    have HK := hide hK
    have HL := hide (repl_len (c := c) (T := new.data.toList) (by rw [← Lib.size_eq]; exact hn) s.data.toList)
    rw [hlen] at HL
    have hmul : K * new.size ≤ 600000 := by have := Nat.mul_le_mul hKs hn; omega
    obtain ⟨G, hG⟩ : ∃ G, s.size + K * new.size - K * 1 = G := ⟨_, rfl⟩
    rw [hG] at hga
    replace hga : wrap64 ((s.size : Int) + wrap64 ((K : Int) * ((new.size : Int) - 1))) = (G : Int) := hga
    have hGb : G ≤ 700000 := by omega
    clear hK hG hmul
    go_enter Tryd.func65, Tryd.ntmps65
    go_wp2_with fail
    refine (unhide hq).mono ?_
    rintro e w ⟨rfl, rfl⟩
    clear hq
    go_wp2_with fail
    rw [hga]
    refine (Tryd.Builder_Grow_fresh w.heap.size w.heap.size G _ (Nat.le_refl _) (heap_alloc_new w _) (by simp) (by omega)).mono ?_
    rintro e w1 ⟨rfl, hb0, hb1⟩
    have H1 := hide (Lib.IsBuilderF.of (Or.inr hb0 : Lib.IsBuilder 71 5 w.heap.size w.heap.size [] w1))
    have Hb1 := hide (((Below.refl w.heap.size w).alloc (Nat.le_refl _) _).trans hb1)
    clear hb0 hb1 hga
    go_wp2_with fail
    go_loopw [11, 53] (fun st i w' => ∃ (k start : Nat) (acc : List UInt8), i = .int .i64 k ∧ st = .int .i64 start ∧ k ≤ K ∧ start ≤ s.size ∧ Hid (Lib.IsBuilderF 71 5 w.heap.size w.heap.size (Lib.byteCells acc) w') ∧ Hid (Below w.heap.size w w') ∧ Hid (acc ++ repl c new.data.toList (s.data.toList.drop start) = repl c new.data.toList s.data.toList) ∧ Hid (Lib.countByte (s.data.toList.drop start) c = K - k)) (fun _ i _ => K - (Go.RowKit.intOf i).toNat)
    case atStart => exact ⟨0, 0, [], rfl, rfl, Nat.zero_le _, Nat.zero_le _, H1, Hb1, hide (by simp), hide (by simpa using unhide HK)⟩
    case round =>
      obtain ⟨k, start, acc, rfl, rfl, hk, hst, HB, HW, HR, HC⟩ := hrel
      have hBw : w.heap.size ≤ wr.heap.size := (unhide HW).size
      have c1 : (0 : Int) ≤ (start : Int) := by omega
      have c2 : (start : Int) ≤ (s.size : Int) := by omega
      have hsum : acc.length + (repl c new.data.toList (s.data.toList.drop start)).length ≤ 6 * s.size := by
        rw [← List.length_append, unhide HR]; exact unhide HL
      by_cases hlt : k < K
      · obtain ⟨j, e1, e2, e3, e4⟩ := repl_hit (T := new.data.toList) (g := K - (k + 1)) (show Lib.countByte (s.data.toList.drop start) c = K - (k + 1) + 1 by rw [unhide HC]; omega)
        rw [List.length_drop, hlen] at e2
        rw [e3, List.length_append, List.length_append, ← Lib.size_eq new] at hsum
        have htl : ((s.data.toList.drop start).take j).length = j := by rw [List.length_take, List.length_drop, hlen]; omega
        have c3 : (start : Int) ≤ (start : Int) + (j : Int) := by omega
        have c4 : (start : Int) + (j : Int) ≤ (s.size : Int) := by omega
        have hq := hide (sindex_one (s.extract start s.size) c wr)
        rw [Lib.extract_to_end, e1] at hq
        have E3 := hide e3
        have E4 := hide e4
        clear e1 e3 e4
        go_wp2_with fail
        refine (unhide hq).mono ?_
        rintro e w2 ⟨rfl, rfl⟩
        clear hq
        have hnext : Lib.byteCells acc ++ Lib.strCells (s.extract start (start + j)) ++ Lib.strCells new = Lib.byteCells (acc ++ (s.data.toList.drop start).take j ++ new.data.toList) := by
          rw [Lib.strCells_eq, Lib.strCells_eq, Lib.extract_data, Nat.add_sub_cancel_left, ← Lib.byteCells_append, ← Lib.byteCells_append]
        have Hn := hide hnext
        clear hnext
        go_wp2_with fail
        refine (bld_write w.heap.size w.heap.size _ (s.extract start (start + j)) _ (unhide HB) (by rw [Lib.byteCells_length, ByteArray.size_extract]; omega) hBw).mono ?_
        rintro e w3 ⟨rfl, h3, hb3⟩
        have H3 := hide h3
        have Hb3 := hide ((unhide HW).trans hb3)
        have hBw3 : w.heap.size ≤ w3.heap.size := (unhide Hb3).size
        clear h3 hb3
        go_wp2_with fail
        refine (bld_write w.heap.size w.heap.size _ new _ (unhide H3) (by rw [List.length_append, Lib.byteCells_length, Lib.strCells_length, ByteArray.size_extract]; omega) hBw3).mono ?_
        rintro e w4 ⟨rfl, h4, hb4⟩
        rw [unhide Hn] at h4
        have H4 := hide h4
        have Hb4 := hide ((unhide Hb3).trans hb4)
        clear h4 hb4
        go_wp2_with fail
        go_roundw
        case measure => simp [Go.RowKit.intOf]; omega
        case rel =>
          refine ⟨k + 1, start + j + 1, _, by first | rfl | simp, by first | rfl | simp, by omega, by omega, H4, Hb4, hide ?_, hide ?_⟩
          · rw [← unhide HR, unhide E3, List.drop_drop]
            simp only [List.append_assoc, Nat.add_assoc]
          · have := unhide E4
            rw [List.drop_drop] at this
            rw [← this]; congr 1
      · have hkK : k = K := by omega
        subst hkK
        have hrest : repl c new.data.toList (s.data.toList.drop start) = s.data.toList.drop start := repl_none (by rw [unhide HC, Nat.sub_self])
        rw [hrest, List.length_drop, hlen] at hsum
        have hfin : acc ++ s.data.toList.drop start = repl c new.data.toList s.data.toList := by rw [← unhide HR, hrest]
        have HF := hide hfin
        clear hrest hfin
        go_wp2_with fail
        refine (bld_write w.heap.size w.heap.size _ (s.extract start s.size) _ (unhide HB) (by rw [Lib.byteCells_length, ByteArray.size_extract]; omega) hBw).mono ?_
        rintro e w3 ⟨rfl, h3, hb3⟩
        rw [Lib.strCells_eq, Lib.extract_to_end, ← Lib.byteCells_append, unhide HF] at h3
        have H3 := hide h3
        have Hb3 := hide ((unhide HW).trans hb3)
        have hBw3 : w.heap.size ≤ w3.heap.size := (unhide Hb3).size
        clear h3 hb3
        go_wp2_with fail
        refine (Tryd.Builder_String_any_f w.heap.size w.heap.size _ w3 (unhide H3) hBw3).mono ?_
        rintro e w5 ⟨rfl, hb5⟩
        go_wp2_with fail
        go_ret
        exact ⟨rfl, (unhide Hb3).trans hb5.2⟩
end Go.Proofs.YtdhpfhpegaekpaaDoor.V
