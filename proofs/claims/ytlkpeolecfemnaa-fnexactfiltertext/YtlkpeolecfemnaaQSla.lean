/- impl.slashed. -/
import Derived.Test.YtlkpeolecfemnaaQEsc
import Derived.Test.YtlkpeolecfemnaaShelf
namespace Go.Proofs.Ytlkpeolecfemnaa
open Go.RowKit

theorem idx_mem (c : UInt8) : ∀ l : List UInt8, (0 ≤ Lib.indexByte l c) ↔ c ∈ l
  | [] => by simp [Lib.indexByte]
  | b :: l => by
    have ih := idx_mem c l
    have hge := Lib.indexByte_ge l c
    unfold Lib.indexByte
    by_cases hb : b = c
    · subst hb; simp
    · have hb' : (b == c) = false := by simpa using hb
      have hc : ¬ c = b := fun h => hb h.symm
      rw [hb']
      simp only [List.mem_cons, hc, false_or, ← ih]
      by_cases hm : Lib.indexByte l c = -1
      · simp [hm]
      · simp [hm]; omega
theorem escs_nodup : ∀ (l : List UInt8), l.Nodup → ∀ c, escs l c = if c ∈ l then [92] else []
  | [], _, c => rfl
  | b :: l, h, c => by
    have hn := (List.nodup_cons.1 h).1
    have ih := escs_nodup l (List.nodup_cons.1 h).2 c
    unfold escs at *
    by_cases hb : b = c
    · subst hb
      rw [List.filter_cons_of_pos (by simp), List.map_cons, ih, if_neg hn]
      simp
    · have hc : ¬ c = b := fun h => hb h.symm
      rw [List.filter_cons_of_neg (by simpa using hb), ih]
      simp [hc]
theorem escs_idx {l : List UInt8} (h : l.Nodup) (c : UInt8) : escs l c = if 0 ≤ Lib.indexByte l c then [92] else [] := by
  rw [escs_nodup l h c]
  by_cases hm : c ∈ l
  · rw [if_pos hm, if_pos ((idx_mem c l).2 hm)]
  · rw [if_neg hm, if_neg (fun h => hm ((idx_mem c l).1 h))]

set_option maxRecDepth 8000 in
set_option maxHeartbeats 1000000 in
theorem slashed_any (s so : ByteArray) (hs : s.size ≤ 1000) (hnd : so.data.toList.Nodup) (w : World) :
    Calls Try.prog 22 #[.string s, .string so] w fun e w' => e = .returned (.string ⟨(esc so.data.toList s.data.toList).toArray⟩) ∧ Below w.heap.size w w' := by
  obtain ⟨i0, hi, hz0, hz1, hz2⟩ := info_parts info_u8
  obtain ⟨cap, w1, hrun, hbel, hcell⟩ := conv_bytes s w
  have HC := hide hcell
  have HB := hide hbel
  have HN := hide hnd
  clear hcell hbel hnd
  go_enter Try.func22, Try.ntmps22
  go_wp2_with fail
  clear hrun
  go_loopw [5, 11] (fun v i w' => ∃ (k : Nat) (pre : List UInt8), k ≤ s.size ∧ pre.length ≤ 2 * k ∧ i = .int .i64 k ∧ Hid (w'.ownsRow w1.heap.size 5 1 v pre.length (pre.map byteV)) ∧ Hid (Below w1.heap.size w1 w') ∧ Hid (pre = esc so.data.toList (s.data.toList.take k))) (fun _ i _ => s.size - (intOf i).toNat)
  case atStart => exact ⟨0, [], Nat.zero_le _, Nat.zero_le _, rfl, hide (World.ownsRow_nil _ _ _ _), hide (Below.refl _ _), hide rfl⟩
  case round =>
    obtain ⟨k, pre, hk, hpre, rfl, hown, hb, hl⟩ := hrel
    by_cases hlt : k < s.size
    · have ed := hide (take_at s k hlt)
      have c0 := unhide HC k hlt
      have hz := World.block_lt_of_cell? w1 ⟨w.heap.size, k, none⟩ c0
      replace c0 := cellB (unhide hb) hz c0
      clear hz
      obtain ⟨c, hc⟩ : ∃ c, s[k] = c := ⟨_, rfl⟩
      rw [hc] at ed c0
      clear hc
      have hx : (c.toNat : Int).toNat.toUInt8 = c := by simp
      have hI := hide (fun w => Try.strings_IndexByte so (c.toNat : Int) w)
      rw [hx] at hI
      have eI := hide (escs_idx (unhide HN) c)
      generalize Lib.indexByte so.data.toList c = J at hI eI
      clear hx
      by_cases hJ : 0 ≤ J
      · have st := hide (show pre ++ [92] ++ [c] = esc so.data.toList (s.data.toList.take (k + 1)) by
          rw [unhide ed, esc_snoc, ← unhide hl, unhide eI, if_pos hJ])
        go_wp2_with fail
        refine (unhide hI _).mono ?_
        rintro e w2 ⟨rfl, rfl⟩
        go_wp2_with (first
          | (at_builtin; refine wpList_append_own _ rfl _ _ 70 rfl w1.heap.size 5 i0 (.int .u8 0) 1 1 Try.underlying70 hi hz0 hz1 hz2 rfl (by decide) _ _ _ rfl ((unhide hown).alloc _) ⟨_, 0, none⟩ 1 1 [byteV 92] rfl rfl (cell_one_new _ _ _) (fun x hx => by simp at hx; subst hx; rfl) (by unfold maxLen; omega) (by omega) (by have := (unhide hb).size; simp; omega) ?_; intro v' w3 hown1 hgrow1 _; have hown2 := hide (own_snocU hown1); have hb2 := hide ((bAl (unhide hb) _).grown hgrow1 (by have := (unhide hb).size; simp; omega) (fun j hj => ((unhide hown).lt j hj).1)); clear hown1 hgrow1)
          | (at_builtin; refine wpList_append_own _ rfl _ _ 70 rfl w1.heap.size 5 i0 (.int .u8 0) 1 1 Try.underlying70 hi hz0 hz1 hz2 rfl (by decide) _ _ _ rfl ((unhide hown2).alloc _) ⟨_, 0, none⟩ 1 1 [byteV c] rfl rfl (cell_one_new _ _ _) (fun x hx => by simp at hx; subst hx; rfl) (by simp; unfold maxLen; omega) (by simp; omega) (by have := (unhide hb2).size; simp; omega) ?_; intro v' w4 hown3 hgrow3 _))
        exact ⟨⟨k + 1, pre ++ [92] ++ [c], by omega, by simp; omega, by go_num, hide (own_snocU hown3), hide ((bAl (unhide hb2) _).grown hgrow3 (by have := (unhide hb2).size; simp; omega) (fun j hj => ((unhide hown2).lt j hj).1)), st⟩, by simp [intOf]; omega⟩
      · have st := hide (show pre ++ [c] = esc so.data.toList (s.data.toList.take (k + 1)) by
          rw [unhide ed, esc_snoc, ← unhide hl, unhide eI, if_neg hJ, List.append_nil])
        go_wp2_with fail
        refine (unhide hI _).mono ?_
        rintro e w2 ⟨rfl, rfl⟩
        go_wp2_with (at_builtin; refine wpList_append_own _ rfl _ _ 70 rfl w1.heap.size 5 i0 (.int .u8 0) 1 1 Try.underlying70 hi hz0 hz1 hz2 rfl (by decide) _ _ _ rfl ((unhide hown).alloc _) ⟨_, 0, none⟩ 1 1 [byteV c] rfl rfl (cell_one_new _ _ _) (fun x hx => by simp at hx; subst hx; rfl) (by unfold maxLen; omega) (by omega) (by have := (unhide hb).size; simp; omega) ?_; intro v' w4 hown3 hgrow3 _)
        exact ⟨⟨k + 1, pre ++ [c], by omega, by simp; omega, by go_num, hide (own_snocU hown3), hide ((bAl (unhide hb) _).grown hgrow3 (by have := (unhide hb).size; simp; omega) (fun j hj => ((unhide hown).lt j hj).1)), st⟩, by simp [intOf]; omega⟩
    · have e : k = s.size := by omega
      have st := hide (show pre = esc so.data.toList s.data.toList by
        rw [unhide hl, e, List.take_of_length_le (by simp)])
      have cv := conv_own (unhide hown)
      rw [unhide st] at cv
      go_wp2_with fail
      go_ret
      exact ⟨rfl, bTr (unhide HB) (unhide hb)⟩
end Go.Proofs.Ytlkpeolecfemnaa
