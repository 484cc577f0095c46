/- NAMES: spec.GoodName, impl.GoodName. -/
import Derived.Test.YtdhpfhpegaekpaaDoorQLeaf
import Derived.Laws.IdiomStrings
import Derived.Laws.Closers25
namespace Go.Proofs.YtdhpfhpegaekpaaDoor
open Go.RowKit

theorem digB_getD (s : ByteArray) (h : 0 < s.size) : ((s.data.toList[0]?.getD 0).toNat : Int) = (s[0].toNat : Int) := by
  have : s.data.toList[0]? = some s[0] := by
    rw [List.getElem?_eq_getElem (by simpa using h)]; rfl
  rw [this]; rfl

theorem goodName_of {s : ByteArray} (h1 : 1 ≤ s.size) (h2 : s.size ≤ 30) : goodName s = (!digB (s[0].toNat : Int) && s.data.toList.all okcB) := by
  have e1 : s.data.toList.length = s.size := by simp
  unfold goodName nameL
  rw [e1, digB_getD s (by omega), decide_eq_true h1, decide_eq_true h2]; simp

theorem goodName_size {s : ByteArray} (h : s.size < 1 ∨ 30 < s.size) : goodName s = false := by
  have e1 : s.data.toList.length = s.size := by simp
  unfold goodName nameL
  rw [e1]
  rcases h with h | h
  · rw [decide_eq_false (by omega)]; simp
  · rw [decide_eq_false (p := s.size ≤ 30) (by omega)]; simp

set_option maxHeartbeats 400000 in
theorem sGoodName_any (s : ByteArray) (hs : s.size ≤ maxLen) (w : World) :
    Calls Tryd.prog 30 #[.string s] w fun e w' => e = .returned (.bool (goodName s)) ∧ w = w' := by
  unfold maxLen at hs
  by_cases h1 : s.size < 1
  · have hg := hide (goodName_size (s := s) (.inl h1))
    go_enter Tryd.func30, Tryd.ntmps30
    go_wp2
    go_ret
    exact ⟨ret_bool (unhide hg).symm, rfl⟩
  by_cases h2 : 30 < s.size
  · have hg := hide (goodName_size (s := s) (.inr h2))
    go_enter Tryd.func30, Tryd.ntmps30
    go_wp2
    go_ret
    exact ⟨ret_bool (unhide hg).symm, rfl⟩
  have hg0 := goodName_of (s := s) (by omega) (by omega)
  cases hd : digB (s[0].toNat : Int)
  · rw [hd] at hg0
    have hg := hide hg0
    have H := hide hd
    clear hd hg0
    have d1 : decide ((s.size : Int) < 1) = false := by simp; omega
    have d2 : decide (30 < (s.size : Int)) = false := by simp; omega
    go_enter Tryd.func30, Tryd.ntmps30
    go_wp2_with (go_at_call 40; refine (l1Digit_any _ _).mono ?_; rintro e w' ⟨rfl, rfl⟩; rw [unhide H])
    go_loop [3] (fun i => ∃ k : Nat, k ≤ s.size ∧ i = .int .i64 k ∧ Hid ((s.data.toList.take k).all okcB = true)) (fun i => s.size - (intOf i).toNat)
    case atStart => exact ⟨0, Nat.zero_le _, rfl, hide (by simp)⟩
    case round =>
      obtain ⟨k, hk, rfl, hall⟩ := hrel
      by_cases hlt : k < s.size
      · cases hl : letB (s[k].toNat : Int) <;> cases hdd : digB (s[k].toNat : Int) <;> cases hu : ((s[k].toNat : Int) != 95)
        all_goals
          have hok : okcB s[k] = ((letB (s[k].toNat : Int) || (s[k].toNat : Int) == 95) || digB (s[k].toNat : Int)) := by
            unfold okcB; congr 1; rw [Bool.eq_iff_iff]; simp [namB, letB]
          have hu' : ((s[k].toNat : Int) == 95) = !((s[k].toNat : Int) != 95) := by simp [bne]
          rw [hl, hdd, hu', hu] at hok
          have HL := hide hl
          have HD := hide hdd
          have HU := hide hu
          have HK := hide hok
          clear hl hdd hok hu'
          go_wp2_with (first | (go_at_call 41; refine (l1Letter_any _ _).mono ?_; rintro e w' ⟨rfl, rfl⟩; rw [unhide HL]) | (go_at_call 40; refine (l1Digit_any _ _).mono ?_; rintro e w' ⟨rfl, rfl⟩; rw [unhide HD]))
          first
            | exact ⟨⟨k + 1, by omega, by go_num, hide (by rw [all_take_succ _ _ _ hlt, unhide hall, unhide HK]; rfl)⟩, by simp [intOf]; omega⟩
            | (go_ret; exact ⟨ret_bool (by rw [unhide hg, all_false_of _ s k hlt (unhide HK)]; rfl), rfl⟩)
      · go_wp2
        go_ret
        have e : k = s.size := by omega
        subst e
        refine ⟨ret_bool ?_, rfl⟩
        rw [unhide hg, ← take_whole s, unhide hall]; rfl
  · rw [hd] at hg0
    have hg := hide hg0
    have H := hide hd
    clear hd hg0
    go_enter Tryd.func30, Tryd.ntmps30
    go_wp2_with (go_at_call 40; refine (l1Digit_any _ _).mono ?_; rintro e w' ⟨rfl, rfl⟩; rw [unhide H])
    go_ret
    exact ⟨ret_bool (by rw [unhide hg]; rfl), rfl⟩

theorem isEmpty_of {s : ByteArray} (h : ¬ s.size < 1) : s.toList.isEmpty = false := by
  rw [← decide_eq_emptyBytes]
  simp only [decide_eq_false_iff_not]
  intro e; subst e; exact h (by decide)

/-- '[]byte(s)': a new row of the call's own, its cells the bytes of s. -/
theorem conv_bytes (s : ByteArray) (w : World) : ∃ cap w1, (convert 9 69 (.string s)).run Tryd.prog w = .ok (.slice (some ⟨w.heap.size, 0, none⟩) s.size cap) w1 ∧ Below w.heap.size w w1 ∧
    ∀ j (h : j < s.size), w1.cell? ⟨w.heap.size, j, none⟩ = some (.int .u8 (s[j].toNat : Int)) := by
  refine ⟨_, _, run_bytes_of_string (P := Tryd.prog) w 9 69 5 s Tryd.underlying9 Tryd.underlying69 Tryd.underlying5, ((Below.refl _ _).drew).alloc (Nat.le_refl _) _, ?_⟩
  intro j h
  have h' : w.drew.heap.size = w.heap.size := rfl
  rw [← h', World.cell?_alloc_mark]
  unfold bytesRow
  rw [Array.getElem?_append_left (by simpa using h)]
  have h2 : j < s.data.size := h
  simp only [Array.getElem?_map, Array.getElem?_eq_getElem h2, Option.map_some]
  rfl

set_option maxRecDepth 8000 in
set_option maxHeartbeats 400000 in
theorem iGoodName_any (s : ByteArray) (hs : s.size ≤ maxLen) (w : World) :
    Calls Tryd.prog 45 #[.string s] w fun e w' => e = .returned (.bool (goodName s)) ∧ Below w.heap.size w w' := by
  unfold maxLen at hs
  by_cases h1 : s.size < 1
  · have hg := hide (goodName_size (s := s) (.inl h1))
    obtain rfl : s = ByteArray.empty := ByteArray.ext (Array.eq_empty_of_size_eq_zero (by show s.size = 0; omega))
    go_enter Tryd.func45, Tryd.ntmps45
    go_wp2
    go_ret
    exact ⟨ret_bool (unhide hg).symm, Below.refl _ _⟩
  have he := isEmpty_of h1
  by_cases h2 : 30 < s.size
  · have hg := hide (goodName_size (s := s) (.inr h2))
    go_enter Tryd.func45, Tryd.ntmps45
    go_wp2
    go_ret
    exact ⟨ret_bool (unhide hg).symm, Below.refl _ _⟩
  have hg0 := goodName_of (s := s) (by omega) (by omega)
  have d2 : decide (30 < (s.size : Int)) = false := by simp; omega
  cases hd : namB (s[0].toNat : Int)
  · have hg := hide hg0
    have H := hide hd
    clear hd hg0
    go_enter Tryd.func45, Tryd.ntmps45
    go_wp2_with (go_at_call 57; refine (startsName_any _ _).mono ?_; rintro e w' ⟨rfl, rfl⟩; rw [unhide H])
    go_ret
    refine ⟨ret_bool ?_, Below.refl _ _⟩
    rw [unhide hg]
    cases hdd : digB (s[0].toNat : Int)
    · rw [all_false_of okcB s 0 (by omega) (by unfold okcB; rw [unhide H, hdd]; rfl)]; rfl
    · rfl
  · have hg := hide hg0
    have H := hide hd
    clear hd hg0
    obtain ⟨cap, w1, hrun, hbel, hcell⟩ := conv_bytes s w
    go_enter Tryd.func45, Tryd.ntmps45
    go_wp2_with (go_at_call 57; refine (startsName_any _ _).mono ?_; rintro e w' ⟨rfl, rfl⟩; rw [unhide H])
    go_loop [21] (fun i => ∃ k : Nat, k ≤ s.size ∧ i = .int .i64 k ∧ Hid ((s.data.toList.take k).all okcB = true)) (fun i => s.size - (intOf i).toNat)
    case atStart => exact ⟨0, Nat.zero_le _, rfl, hide (by simp)⟩
    case round =>
      obtain ⟨k, hk, rfl, hall⟩ := hrel
      by_cases hlt : k < s.size
      · have hck := hcell k hlt
        have hok : okcB s[k] = (namB (s[k].toNat : Int) || digB (s[k].toNat : Int)) := rfl
        clear hcell hrun
        cases hl : namB (s[k].toNat : Int) <;> cases hdd : digB (s[k].toNat : Int)
        all_goals
          rw [hl, hdd] at hok
          have HL := hide hl
          have HD := hide hdd
          have HK := hide hok
          clear hl hdd hok
          go_wp2_with (first | (go_at_call 57; refine (startsName_any _ _).mono ?_; rintro e w' ⟨rfl, rfl⟩; rw [unhide HL]) | (go_at_call 58; refine (isDigit_any _ _).mono ?_; rintro e w' ⟨rfl, rfl⟩; rw [unhide HD]))
          first
            | exact ⟨⟨k + 1, by omega, by go_num, hide (by rw [all_take_succ _ _ _ hlt, unhide hall, unhide HK]; rfl)⟩, by simp [intOf]; omega⟩
            | (go_ret; exact ⟨ret_bool (by rw [unhide hg, all_false_of _ s k hlt (unhide HK)]; simp), hbel⟩)
      · go_wp2
        go_ret
        have e : k = s.size := by omega
        subst e
        refine ⟨ret_bool ?_, hbel⟩
        have hnd : digB (s[0].toNat : Int) = false := by
          have := unhide H
          simp only [namB, digB, decide_eq_true_eq, decide_eq_false_iff_not] at this ⊢; omega
        rw [unhide hg, hnd, ← take_whole s, unhide hall]; rfl
end Go.Proofs.YtdhpfhpegaekpaaDoor
