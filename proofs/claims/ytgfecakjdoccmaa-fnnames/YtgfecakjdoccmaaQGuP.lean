/- strings.Cut at '=', impl.guessPartText. -/
import Derived.Test.YtgfecakjdoccmaaQGue
namespace Go.Proofs.Ytgfecakjdoccmaa
open Go.RowKit

theorem ext_take (s : ByteArray) (k : Nat) : s.extract 0 k = ⟨(s.data.toList.take k).toArray⟩ := by
  apply ByteArray.ext
  apply Array.toList_inj.1
  simp [ByteArray.data_extract]
theorem ext_drop (s : ByteArray) (k : Nat) : s.extract k s.size = ⟨(s.data.toList.drop k).toArray⟩ := by
  apply ByteArray.ext
  apply Array.toList_inj.1
  simp [ByteArray.data_extract, List.take_of_length_le]
theorem idx_lt : ∀ (l : List UInt8) (c : UInt8), Lib.indexByte l c < l.length
  | [], c => by simp [Lib.indexByte]
  | b :: l, c => by
    have ih := idx_lt l c
    unfold Lib.indexByte
    split
    · simp
    · split
      · simp; omega
      · simp; omega

set_option maxHeartbeats 400000 in
theorem liteCut_any (s : ByteArray) (w : World) (hs : s.size ≤ 1048576) :
    Calls Try.prog 90 #[.string s, .string ⟨#[61]⟩] w fun e w' => (∃ b : Bool, e = .returned (.tuple #[.string ⟨(cutE s.data.toList).1.toArray⟩, .string ⟨(cutE s.data.toList).2.toArray⟩, .bool b])) ∧ Below w.heap.size w w' := by
  have hI := hide (fun w => Try.stringslite_Index_one s 61 w)
  have hlt := idx_lt s.data.toList 61
  have hge := Lib.indexByte_ge s.data.toList 61
  have hl : s.data.toList.length = s.size := by simp
  rw [hl] at hlt
  have e1 := ext_take s
  have e2 := ext_drop s
  unfold cutE
  generalize Lib.indexByte s.data.toList 61 = J at hI hlt hge
  by_cases hJ : 0 ≤ J
  · obtain ⟨j, rfl⟩ := Int.eq_ofNat_of_zero_le hJ
    rw [if_pos hJ]
    simp only [Int.toNat_natCast]
    rw [← e1, ← e2]
    clear e1 e2 hge hl
    go_enter Try.func90, Try.ntmps90
    go_wp2_with fail
    refine (unhide hI _).mono ?_
    rintro e w1 ⟨rfl, rfl⟩
    have i0 : (0 : Int) ≤ (j : Int) := by omega
    have i1 : (j : Int) ≤ (s.size : Int) := by omega
    have i2 : (j : Int) + 1 ≤ (s.size : Int) := by omega
    go_wp2_with fail
    go_quiet (fail)
    go_wp2_with fail
    refine bodyPost_ret (v := .tuple #[.string (s.extract 0 j), .string (s.extract (j + 1) s.size), .bool true]) (by simp [results, Try.results90, go_sem]) rfl ⟨⟨_, rfl⟩, below_drewN (Below.refl _ _) _⟩
  · rw [if_neg hJ]
    simp only
    rw [mk_toList]
    clear e1 e2 hl
    go_enter Try.func90, Try.ntmps90
    go_wp2_with fail
    refine (unhide hI _).mono ?_
    rintro e w1 ⟨rfl, rfl⟩
    go_wp2_with fail
    refine bodyPost_ret (v := .tuple #[.string s, .string ⟨#[]⟩, .bool false]) (by simp [results, Try.results90, go_sem]) rfl ⟨⟨_, rfl⟩, Below.refl _ _⟩

theorem cut_any (s : ByteArray) (w : World) (hs : s.size ≤ 1048576) :
    Calls Try.prog 65 #[.string s, .string ⟨#[61]⟩] w fun e w' => (∃ b : Bool, e = .returned (.tuple #[.string ⟨(cutE s.data.toList).1.toArray⟩, .string ⟨(cutE s.data.toList).2.toArray⟩, .bool b])) ∧ Below w.heap.size w w' := by
  have q := hide (liteCut_any s w hs)
  generalize (⟨(cutE s.data.toList).1.toArray⟩ : ByteArray) = X at q
  generalize (⟨(cutE s.data.toList).2.toArray⟩ : ByteArray) = Y at q
  go_enter Try.func65, Try.ntmps65
  go_wp2_with fail
  refine (unhide q).mono ?_
  rintro e w1 ⟨⟨b, rfl⟩, hb⟩
  have BB := hide hb
  clear hb q
  go_wp2_with fail
  refine bodyPost_ret (v := .tuple #[.string X, .string Y, .bool b]) (by simp [results, Try.results65, go_sem]) rfl ⟨⟨_, rfl⟩, unhide BB⟩

theorem drop_at (s : ByteArray) (k : Nat) (h : k < s.size) : s.data.toList.drop k = s[k] :: s.data.toList.drop (k + 1) := by
  rw [List.drop_eq_getElem_cons (by simpa using h)]; rfl

set_option maxHeartbeats 1000000 in
theorem guessPart_any (s : ByteArray) (w : World) (hs : s.size ≤ 1048576) :
    Calls Try.prog 66 #[.string s] w fun e w' => e = .returned (.tuple #[.string ⟨(gpart s.data.toList).1.toArray⟩, .string ⟨(gpart s.data.toList).2.toArray⟩]) ∧ Below w.heap.size w w' := by
  obtain ⟨i0, hi, hz0, hz1, hz2⟩ := info_parts info_u8
  go_enter Try.func66, Try.ntmps66
  go_wp2_with fail
  go_loopw [4, 5] (fun v i w' => ∃ (k : Nat) (pre : List UInt8), k ≤ s.size ∧ pre.length ≤ k ∧ i = .int .i64 k ∧ Hid (w'.ownsRow w.heap.size 5 1 v pre.length (pre.map byteV)) ∧ Hid (Below w.heap.size w w') ∧ Hid (gpart s.data.toList = (pre ++ (gpart (s.data.toList.drop k)).1, (gpart (s.data.toList.drop k)).2))) (fun _ i _ => s.size - (intOf i).toNat)
  case atStart => exact ⟨0, [], Nat.zero_le _, Nat.zero_le _, rfl, hide (World.ownsRow_nil _ _ _ _), hide (Below.refl _ _), hide (by simp)⟩
  case round =>
    obtain ⟨k, pre, hk, hpre, rfl, hown, hb, hl⟩ := hrel
    by_cases hlt : k < s.size
    · have ed := hide (drop_at s k hlt)
      obtain ⟨c, hc⟩ : ∃ c, s[k] = c := ⟨_, rfl⟩
      rw [hc] at ed
      by_cases h44 : c = 44
      · have st := hide (show gpart s.data.toList = (pre, s.data.toList.drop (k + 1)) by
          rw [unhide hl, unhide ed, h44, gpart_comma, List.append_nil])
        have d1 : ((c.toNat : Int) == 44) = true := by rw [h44]; rfl
        have cv := conv_own (own_dr (unhide hown) 0)
        have cvA := fun n => conv_own (own_dr (unhide hown) n)
        have i0 : (0 : Int) ≤ (k : Int) + 1 := by omega
        have i1 : (k : Int) + 1 ≤ (s.size : Int) := by omega
        have ex := hide (ext_drop s (k + 1))
        clear h44 cv
        go_wp2_with fail
        go_quiet (fail)
        go_wp2_with fail
        refine bodyPost_ret (v := .tuple #[.string ⟨pre.toArray⟩, .string (s.extract (k + 1) s.size)]) (by simp [results, Try.results66, go_sem]) rfl ⟨?_, below_drewN (unhide hb) _⟩
        rw [unhide st, unhide ex]
      · have d1 : ((c.toNat : Int) == 44) = false := by
          have : ¬ (c.toNat : Int) = 44 := fun h => h44 (UInt8.toNat_inj.1 (by simp; omega))
          simpa using this
        by_cases h92 : c = 92
        · have d2 : ((c.toNat : Int) == 92) = true := by rw [h92]; rfl
          by_cases hn : k + 1 < s.size
          · have ed2 := hide (drop_at s (k + 1) hn)
            obtain ⟨d, hd⟩ : ∃ d, s[k + 1] = d := ⟨_, rfl⟩
            rw [hd] at ed2
            have st := hide (show gpart s.data.toList = (pre ++ [d] ++ (gpart (s.data.toList.drop (k + 2))).1, (gpart (s.data.toList.drop (k + 2))).2) by
              rw [unhide hl, unhide ed, unhide ed2, h92, gpart_slash]; simp)
            have i0' : (0 : Int) ≤ (k : Int) + 1 := by omega
            have i1' : (k : Int) + 1 < (s.size : Int) := by omega
            clear h92 h44
            go_wp2_with (at_builtin; refine wpList_append_own _ rfl _ _ 22 rfl w.heap.size 5 i0 (.int .u8 0) 1 1 Try.underlying22 hi hz0 hz1 hz2 rfl (by decide) _ _ _ rfl ((unhide hown).alloc _) ⟨_, 0, none⟩ 1 1 [byteV d] rfl rfl (cell_one_new _ _ _) (fun x hx => by simp at hx; subst hx; rfl) (by unfold maxLen; omega) (by omega) (by have := (unhide hb).size; simp; omega) ?_; intro v' w1 hown1 hgrow1 _)
            exact ⟨⟨k + 2, pre ++ [d], by omega, by simp; omega, by go_num, hide (own_snocU hown1), hide ((bAl (unhide hb) _).grown hgrow1 (by have := (unhide hb).size; simp; omega) (fun j hj => ((unhide hown).lt j hj).1)), st⟩, by simp [intOf]; omega⟩
          · have st := hide (show gpart s.data.toList = (pre ++ [c] ++ (gpart (s.data.toList.drop (k + 1))).1, (gpart (s.data.toList.drop (k + 1))).2) by
              rw [unhide hl, unhide ed, h92, List.drop_of_length_le (show s.data.toList.length ≤ k + 1 by simp; omega), gpart_last]; simp [gpart])
            have i1' : ¬ (k : Int) + 1 < (s.size : Int) := by omega
            clear h92 h44
            go_wp2_with (at_builtin; refine wpList_append_own _ rfl _ _ 22 rfl w.heap.size 5 i0 (.int .u8 0) 1 1 Try.underlying22 hi hz0 hz1 hz2 rfl (by decide) _ _ _ rfl ((unhide hown).alloc _) ⟨_, 0, none⟩ 1 1 [byteV c] rfl rfl (cell_one_new _ _ _) (fun x hx => by simp at hx; subst hx; rfl) (by unfold maxLen; omega) (by omega) (by have := (unhide hb).size; simp; omega) ?_; intro v' w1 hown1 hgrow1 _)
            exact ⟨⟨k + 1, pre ++ [c], by omega, by simp; omega, by go_num, hide (own_snocU hown1), hide ((bAl (unhide hb) _).grown hgrow1 (by have := (unhide hb).size; simp; omega) (fun j hj => ((unhide hown).lt j hj).1)), st⟩, by simp [intOf]; omega⟩
        · have d2 : ((c.toNat : Int) == 92) = false := by
            have : ¬ (c.toNat : Int) = 92 := fun h => h92 (UInt8.toNat_inj.1 (by simp; omega))
            simpa using this
          have st := hide (show gpart s.data.toList = (pre ++ [c] ++ (gpart (s.data.toList.drop (k + 1))).1, (gpart (s.data.toList.drop (k + 1))).2) by
            rw [unhide hl, unhide ed, gpart_other h44 h92]; simp)
          clear h92 h44
          go_wp2_with (at_builtin; refine wpList_append_own _ rfl _ _ 22 rfl w.heap.size 5 i0 (.int .u8 0) 1 1 Try.underlying22 hi hz0 hz1 hz2 rfl (by decide) _ _ _ rfl ((unhide hown).alloc _) ⟨_, 0, none⟩ 1 1 [byteV c] rfl rfl (cell_one_new _ _ _) (fun x hx => by simp at hx; subst hx; rfl) (by unfold maxLen; omega) (by omega) (by have := (unhide hb).size; simp; omega) ?_; intro v' w1 hown1 hgrow1 _)
          exact ⟨⟨k + 1, pre ++ [c], by omega, by simp; omega, by go_num, hide (own_snocU hown1), hide ((bAl (unhide hb) _).grown hgrow1 (by have := (unhide hb).size; simp; omega) (fun j hj => ((unhide hown).lt j hj).1)), st⟩, by simp [intOf]; omega⟩
    · have e : k = s.size := by omega
      have st := hide (show gpart s.data.toList = (pre, []) by
        rw [unhide hl, e, List.drop_of_length_le (by simp)]; simp [gpart])
      have cv := conv_own (unhide hown)
      go_wp2_with fail
      refine bodyPost_ret (v := .tuple #[.string ⟨pre.toArray⟩, .string ⟨#[]⟩]) (by simp [results, Try.results66, go_sem]) rfl ⟨?_, unhide hb⟩
      rw [unhide st]
end Go.Proofs.Ytgfecakjdoccmaa
