/- WCmp, ported from seat 1a. -/
import Derived.Test.YtdhpfhpegaekpaaDoorWCmpP
import Derived.Test.YtdhpfhpegaekpaaDoorQNum
import Derived.Test.YtdhpfhpegaekpaaDoorWKept
namespace Go.Proofs.YtdhpfhpegaekpaaDoor.V
open Go.RowKit

theorem cmpNum_any (a b : Int) (w : World) : Calls Tryd.prog 55 #[.int .i64 a, .int .i64 b] w fun e w' => e = .returned (.int .i64 (cmpN a b)) ∧ w = w' := by
  unfold cmpN
  by_cases h : a < b
  · rw [if_pos h]
    go_enter Tryd.func55, Tryd.ntmps55
    go_wp2
    go_ret
    exact ⟨rfl, rfl⟩
  · rw [if_neg h]
    by_cases h2 : b < a
    · rw [if_pos h2]
      go_enter Tryd.func55, Tryd.ntmps55
      go_wp2
      go_ret
      exact ⟨rfl, rfl⟩
    · rw [if_neg h2]
      go_enter Tryd.func55, Tryd.ntmps55
      go_wp2
      go_ret
      exact ⟨rfl, rfl⟩

set_option maxHeartbeats 1000000 in
theorem cmpText_any (a b : ByteArray) (w : World) (ha : a.size ≤ maxLen) :
    Calls Tryd.prog 42 #[.string a, .string b] w fun e w' => e = .returned (.int .i64 (cmpT a.data.toList b.data.toList)) ∧ Below w.heap.size w w' := by
  unfold maxLen at ha
  have la : a.data.toList.length = a.size := by simp
  have lb : b.data.toList.length = b.size := by simp
  have LA := hide la
  have LB := hide lb
  clear la lb
  go_enter Tryd.func42, Tryd.ntmps42
  go_wp2
  go_loopw [5] (fun i w' => ∃ k : Nat, k ≤ a.size ∧ k ≤ b.size ∧ i = .int .i64 k ∧ Below w.heap.size w w' ∧ Hid (cmpT a.data.toList b.data.toList = cmpT (a.data.toList.drop k) (b.data.toList.drop k))) (fun i _ => a.size - (intOf i).toNat)
  case atStart => exact ⟨0, Nat.zero_le _, Nat.zero_le _, rfl, Below.refl _ _, hide (by simp)⟩
  case round =>
    obtain ⟨k, hk1, hk2, rfl, hbel, hc⟩ := hrel
    by_cases h1 : (k : Int) < (a.size : Int)
    · by_cases h2 : (k : Int) < (b.size : Int)
      · have h0 : (0 : Int) ≤ (k : Int) := by omega
        have ka : k < a.size := by omega
        have kb : k < b.size := by omega
        have eA : a.data.toList[k]'(by rw [unhide LA]; exact ka) = a[k] := rfl
        have eB : b.data.toList[k]'(by rw [unhide LB]; exact kb) = b[k] := rfl
        have EA := hide eA
        have EB := hide eB
        clear eA eB
        cases hne : ((a[k].toNat : Int) != (b[k].toNat : Int))
        · have he : a[k] = b[k] := by
            apply u8_eq; simpa using hne
          have HE := hide he
          clear he
          go_wp2
          go_quiet (fail)
          go_wp2
          go_roundw
          case rel => exact ⟨k + 1, by omega, by omega, by go_num, below_drewN hbel _, hide (by rw [unhide hc]; exact cmpT_drop_step _ _ k (by rw [unhide LA]; exact ka) (by rw [unhide LB]; exact kb) (unhide HE))⟩
          case measure => simp [intOf]; omega
        · have he : ¬ a[k] = b[k] := by
            intro h; rw [h] at hne; simp at hne
          have HE := hide he
          clear he
          have wA : IntKind.i64.wrap (a[k].toNat : Int) = (a[k].toNat : Int) := by rw [IntKind.wrap_i64]; have := a[k].toNat_lt; omega
          have wB : IntKind.i64.wrap (b[k].toNat : Int) = (b[k].toNat : Int) := by rw [IntKind.wrap_i64]; have := b[k].toNat_lt; omega
          go_wp2
          go_quiet (fail)
          replace hbel := below_drewN hbel nq
          generalize wr.drewN nq = w5 at hbel ⊢
          go_wp2
          go_quiet ((go_at_call 55; exact quiet_same (cmpNum_any _ _ _)))
          go_wp2
          go_ret
          refine ⟨ret_int ?_, below_drewN hbel _⟩
          rw [unhide hc, cmpT_drop_differ _ _ k (by rw [unhide LA]; exact ka) (by rw [unhide LB]; exact kb) (unhide HE)]
          rfl
      · have d2 : decide ((k : Int) < (b.size : Int)) = false := by simpa using h2
        go_wp2_with (go_at_call 55; refine (cmpNum_any _ _ _).mono ?_; rintro e w' ⟨rfl, rfl⟩)
        go_ret
        refine ⟨ret_int ?_, hbel⟩
        rw [unhide hc, cmpT_drop_end _ _ k (by rw [unhide LA, unhide LB]; omega), unhide LA, unhide LB]
    · have d1 : decide ((k : Int) < (a.size : Int)) = false := by simpa using h1
      go_wp2_with (go_at_call 55; refine (cmpNum_any _ _ _).mono ?_; rintro e w' ⟨rfl, rfl⟩)
      go_ret
      refine ⟨ret_int ?_, hbel⟩
      rw [unhide hc, cmpT_drop_end _ _ k (by rw [unhide LA, unhide LB]; omega), unhide LA, unhide LB]

theorem bne_zero {c : Int} (h : ¬ c = 0) : (c != 0) = true := by simpa using h

def orFrom (v0 v1 v2 v3 : Int) : Nat → Int
  | 0 => orI v0 (orI v1 (orI v2 v3))
  | 1 => orI v1 (orI v2 v3)
  | 2 => orI v2 v3
  | 3 => v3
  | _ => 0
theorem orI_zero (b : Int) : orI 0 b = b := by unfold orI; rw [if_pos rfl]
theorem orI_not {a : Int} (h : ¬ a = 0) (b : Int) : orI a b = a := by unfold orI; rw [if_neg h]

end Go.Proofs.YtdhpfhpegaekpaaDoor.V
