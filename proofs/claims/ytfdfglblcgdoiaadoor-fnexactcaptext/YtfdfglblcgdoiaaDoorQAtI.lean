/- impl.goodBlock (70), impl.goodNum (50). -/
import Derived.Test.YtfdfglblcgdoiaaDoorQNum
import Derived.Deep.RegionWith
namespace Go.Proofs.YtfdfglblcgdoiaaDoor
open Go.RowKit

/-- A block of addresses: first and bits in one number. -/
def blockB (n : Int) : Bool := decide (0 ≤ n) && (decide (n % 64 ≤ 32) && (decide (n / 64 < 4294967296) && ((n / 64) % pw (32 - n % 64).toNat == 0)))

set_option maxHeartbeats 400000 in
theorem goodBlock_any (n : Int) (w : World) (h9 : n ≤ 9223372036854775807) :
    Calls Tryd.prog 76 #[.int .i64 n] w fun e w' => e = .returned (.bool (blockB n)) ∧ Below w.heap.size w w' := by
  by_cases h0 : n < 0
  · have hb : blockB n = false := by unfold blockB; rw [decide_eq_false (p := 0 ≤ n) (by omega)]; rfl
    have H := hide hb
    clear hb
    go_enter Tryd.func76, Tryd.ntmps76
    go_wp2
    go_ret
    exact ⟨ret_bool (unhide H).symm, Below.refl _ _⟩
  have hn : (n < 0) = False := by simp; omega
  have hc := hide (fun w => blockOf_any n w (by omega) h9)
  by_cases h1 : n % 64 ≤ 32
  · by_cases h2 : n / 64 < 4294967296
    · have d1 : decide (n % 64 ≤ 32) = true := by simpa using h1
      have d2 : decide (n / 64 < 4294967296) = true := by simpa using h2
      have e1 : (n / 64).tmod (pw (32 - n % 64).toNat) = (n / 64) % pw (32 - n % 64).toNat := Int.tmod_eq_emod_of_nonneg (by omega)
      have hp := pw_pos (32 - n % 64).toNat
      have hs := hide (fun w => size_any (n / 64) (n % 64) w (by omega) (by omega))
      have hb : blockB n = ((n / 64) % pw (32 - n % 64).toNat == 0) := by unfold blockB; rw [d1, d2, decide_eq_true (p := 0 ≤ n) (by omega)]; simp
      have H := hide hb
      clear hb
      go_enter Tryd.func76, Tryd.ntmps76
      go_wp2_with (go_at_call 72; refine (unhide hc _).mono ?_; rintro e w' ⟨rfl, rfl⟩)
      go_region_with (go_at_call 81; refine (unhide hs _).mono ?_; rintro e w' ⟨rfl, rfl⟩)
      all_goals
        go_wp2
        go_ret
        refine ⟨ret_bool ?_, ?_⟩
        · rw [unhide H]
        · (repeat (first | exact Below.refl _ _ | refine below_drewN ?_ _ | refine Below.drew ?_ | refine bAl ?_ _))
    · have d1 : decide (n % 64 ≤ 32) = true := by simpa using h1
      have d2 : decide (n / 64 < 4294967296) = false := by simpa using h2
      have hb : blockB n = false := by unfold blockB; rw [d2]; simp
      have H := hide hb
      clear hb
      go_enter Tryd.func76, Tryd.ntmps76
      go_wp2_with (go_at_call 72; refine (unhide hc _).mono ?_; rintro e w' ⟨rfl, rfl⟩)
      go_quiet (fail)
      go_wp2
      go_ret
      exact ⟨ret_bool (unhide H).symm, below_drewN (((Below.refl _ _).alloc (Nat.le_refl _) _).alloc (by simp) _) _⟩
  · have d1 : decide (n % 64 ≤ 32) = false := by simpa using h1
    have hb : blockB n = false := by unfold blockB; rw [d1]; simp
    have H := hide hb
    clear hb
    go_enter Tryd.func76, Tryd.ntmps76
    go_wp2_with (go_at_call 72; refine (unhide hc _).mono ?_; rintro e w' ⟨rfl, rfl⟩)
    go_quiet (fail)
    go_wp2
    go_ret
    exact ⟨ret_bool (unhide H).symm, below_drewN (((Below.refl _ _).alloc (Nat.le_refl _) _).alloc (by simp) _) _⟩

def numB (k n : Int) : Bool := if k = 1 then n == 0 || n == 1 else if k = 6 then blockB n else if k = 7 then decide (-100000000000 ≤ n) && decide (n ≤ 100000000000) else true

theorem goodNum_any (k n : Int) (w : World) (h9 : n ≤ 9223372036854775807) :
    Calls Tryd.prog 66 #[.int .i64 k, .int .i64 n] w fun e w' => e = .returned (.bool (numB k n)) ∧ Below w.heap.size w w' := by
  unfold numB
  by_cases h1 : k = 1
  · subst h1
    rw [if_pos rfl]
    go_enter Tryd.func66, Tryd.ntmps66
    go_wp2
    all_goals go_ret
    all_goals exact ⟨ret_bool (by simp [*]), Below.refl _ _⟩
  rw [if_neg h1]
  have t1 : (k == 1) = false := by simpa using h1
  by_cases h2 : k = 6
  · subst h2
    rw [if_pos rfl]
    go_enter Tryd.func66, Tryd.ntmps66
    go_wp2_with (go_at_call 76; refine (goodBlock_any _ _ h9).mono ?_; rintro e w' ⟨rfl, hb⟩)
    go_ret
    exact ⟨rfl, hb⟩
  rw [if_neg h2]
  have t2 : (k == 6) = false := by simpa using h2
  by_cases h3 : k = 7
  · subst h3
    rw [if_pos rfl]
    go_enter Tryd.func66, Tryd.ntmps66
    go_wp2
    all_goals go_ret
    all_goals refine ⟨ret_bool ?_, Below.refl _ _⟩
    all_goals (rw [Bool.eq_iff_iff]; simp; try omega)
  rw [if_neg h3]
  have t3 : (k == 7) = false := by simpa using h3
  clear h1 h2 h3
  go_enter Tryd.func66, Tryd.ntmps66
  go_wp2
  go_ret
  exact ⟨rfl, Below.refl _ _⟩
end Go.Proofs.YtfdfglblcgdoiaaDoor
