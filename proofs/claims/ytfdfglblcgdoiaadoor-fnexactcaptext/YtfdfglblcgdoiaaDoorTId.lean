/- Ids: impl.isId, spec.l7Id. -/
import Derived.Test.YtfdfglblcgdoiaaDoorQText
namespace Go.Proofs.YtfdfglblcgdoiaaDoor
open Go.RowKit
set_option maxRecDepth 20000

def idcB (c : UInt8) : Bool := namB (c.toNat : Int) || digB (c.toNat : Int) || !((c.toNat : Int) != 45) || !((c.toNat : Int) != 46)
def idB (s : ByteArray) : Bool := decide (1 ≤ s.size ∧ s.size ≤ 40) && s.data.toList.all idcB
theorem nam_let (n : Int) : namB n = (letB n || !(n != 95)) := by
  rw [Bool.eq_iff_iff]
  simp [namB, letB]
theorem idB_size {s : ByteArray} (h : s.size < 1 ∨ 40 < s.size) : idB s = false := by
  unfold idB
  rw [decide_eq_false (by omega)]; rfl
theorem idB_of {s : ByteArray} (h1 : 1 ≤ s.size) (h2 : s.size ≤ 40) : idB s = s.data.toList.all idcB := by
  unfold idB
  rw [decide_eq_true (by omega)]; rfl

set_option maxHeartbeats 1000000 in
theorem isId_any (s : ByteArray) (hs : s.size ≤ maxLen) (w : World) :
    Calls Tryd.prog 31 #[.string s] w fun e w' => e = .returned (.bool (idB s)) ∧ Below w.heap.size w w' := by
  unfold maxLen at hs
  by_cases h1 : s.size < 1
  · have hg := hide (idB_size (s := s) (.inl h1))
    obtain rfl : s = ByteArray.empty := ByteArray.ext (Array.eq_empty_of_size_eq_zero (by show s.size = 0; omega))
    go_enter Tryd.func31, Tryd.ntmps31
    go_wp2
    go_ret
    exact ⟨ret_bool (unhide hg).symm, Below.refl _ _⟩
  have he := isEmpty_of h1
  by_cases h2 : 40 < s.size
  · have hg := hide (idB_size (s := s) (.inr h2))
    go_enter Tryd.func31, Tryd.ntmps31
    go_wp2
    go_ret
    exact ⟨ret_bool (unhide hg).symm, Below.refl _ _⟩
  have hg := hide (idB_of (s := s) (by omega) (by omega))
  have d2 : decide (40 < (s.size : Int)) = false := by simp; omega
  obtain ⟨cap, w1, hrun, hbel, hcell⟩ := conv_bytes s w
  go_enter Tryd.func31, Tryd.ntmps31
  go_wp2_with fail
  go_loop [15] (fun i => ∃ k : Nat, k ≤ s.size ∧ i = .int .i64 k ∧ Hid ((s.data.toList.take k).all idcB = true)) (fun i => s.size - (intOf i).toNat)
  case atStart => exact ⟨0, Nat.zero_le _, rfl, hide (by simp)⟩
  case round =>
    obtain ⟨k, hk, rfl, hall⟩ := hrel
    by_cases hlt : k < s.size
    · have hck := hcell k hlt
      have hok : idcB s[k] = (namB (s[k].toNat : Int) || digB (s[k].toNat : Int) || !((s[k].toNat : Int) != 45) || !((s[k].toNat : Int) != 46)) := rfl
      clear hcell hrun
      cases hl : namB (s[k].toNat : Int) <;> cases hdd : digB (s[k].toNat : Int) <;> cases h45 : ((s[k].toNat : Int) != 45) <;> cases h46 : ((s[k].toNat : Int) != 46)
      all_goals
        rw [hl, hdd, h45, h46] at hok
        have HL := hide hl
        have HD := hide hdd
        have HK := hide hok
        clear hl hdd hok
        go_wp2_with (first | (go_at_call 51; refine (startsName_any _ _).mono ?_; rintro e w' ⟨rfl, rfl⟩; rw [unhide HL]) | (go_at_call 52; refine (isDigit_any _ _).mono ?_; rintro e w' ⟨rfl, rfl⟩; rw [unhide HD]))
        first
          | exact ⟨⟨k + 1, by omega, by go_num, hide (by rw [all_take_succ _ _ _ hlt, unhide hall, unhide HK]; rfl)⟩, by simp [intOf]; omega⟩
          | (go_ret; exact ⟨ret_bool (by rw [unhide hg, all_false_of _ s k hlt (unhide HK)]), hbel⟩)
    · go_wp2
      go_ret
      have e : k = s.size := by omega
      subst e
      refine ⟨ret_bool ?_, hbel⟩
      rw [unhide hg, ← take_whole s, unhide hall]

set_option maxHeartbeats 1000000 in
theorem l7Id_any (s : ByteArray) (hs : s.size ≤ maxLen) (w : World) :
    Calls Tryd.prog 26 #[.string s] w fun e w' => e = .returned (.bool (idB s)) ∧ Below w.heap.size w w' := by
  unfold maxLen at hs
  go_enter Tryd.func26, Tryd.ntmps26
  go_wp2_with fail
  go_loop [3] (fun i => ∃ k : Nat, k ≤ s.size ∧ i = .int .i64 k ∧ Hid ((s.data.toList.take k).all idcB = true)) (fun i => s.size - (intOf i).toNat)
  case atStart => exact ⟨0, Nat.zero_le _, rfl, hide (by simp)⟩
  case round =>
    obtain ⟨k, hk, rfl, hall⟩ := hrel
    by_cases hlt : k < s.size
    · have hok : idcB s[k] = (letB (s[k].toNat : Int) || !((s[k].toNat : Int) != 95) || digB (s[k].toNat : Int) || !((s[k].toNat : Int) != 45) || !((s[k].toNat : Int) != 46)) := by unfold idcB; rw [nam_let]
      cases hl : letB (s[k].toNat : Int) <;> cases hdd : digB (s[k].toNat : Int) <;> cases h95 : ((s[k].toNat : Int) != 95) <;> cases h45 : ((s[k].toNat : Int) != 45) <;> cases h46 : ((s[k].toNat : Int) != 46)
      all_goals
        rw [hl, hdd, h95, h45, h46] at hok
        have HL := hide hl
        have HD := hide hdd
        have HK := hide hok
        clear hl hdd hok
        go_wp2_with (first | (go_at_call 44; refine (l1Letter_any _ _).mono ?_; rintro e w' ⟨rfl, rfl⟩; rw [unhide HL]) | (go_at_call 45; refine (l1Digit_any _ _).mono ?_; rintro e w' ⟨rfl, rfl⟩; rw [unhide HD]))
        first
          | exact ⟨⟨k + 1, by omega, by go_num, hide (by rw [all_take_succ _ _ _ hlt, unhide hall, unhide HK]; rfl)⟩, by simp [intOf]; omega⟩
          | (go_ret; exact ⟨ret_bool (by unfold idB; rw [all_false_of _ s k hlt (unhide HK), Bool.and_false]), Below.refl _ _⟩)
    · have e : k = s.size := by omega
      subst e
      have ha := hide (show s.data.toList.all idcB = true by rw [← take_whole s]; exact unhide hall)
      by_cases h1 : 1 ≤ s.size
      · by_cases h2 : s.size ≤ 40
        · go_wp2_with fail
          go_ret
          exact ⟨ret_bool (by rw [idB_of h1 h2, unhide ha]; exact decide_eq_true (by omega)), Below.refl _ _⟩
        · go_wp2_with fail
          go_ret
          exact ⟨ret_bool (by rw [idB_size (.inr (by omega))]; exact decide_eq_false (by omega)), Below.refl _ _⟩
      · go_wp2_with fail
        go_ret
        exact ⟨ret_bool (by rw [idB_size (.inl (by omega))]), Below.refl _ _⟩
end Go.Proofs.YtfdfglblcgdoiaaDoor
