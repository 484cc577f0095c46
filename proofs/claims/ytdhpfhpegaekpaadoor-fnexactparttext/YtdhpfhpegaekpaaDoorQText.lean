/- Texts: spec.l1Printed, impl.goodText. -/
import Derived.Test.YtdhpfhpegaekpaaDoorQName
import Derived.Deep.QuietTactic
import Derived.BigQuiet
namespace Go.Proofs.YtdhpfhpegaekpaaDoor
open Go.RowKit

/-- A callee's contract 'the very world', within a region that draws. -/
theorem quiet_same {P : Program} {f : FuncId} {args : Array Value} {w : World} {n : Nat} {v : Value}
    (h : Calls P f args (w.drewN n) fun e w' => e = .returned v ∧ w.drewN n = w') : Calls P f args (w.drewN n) fun e w'' => e = .returned v ∧ ∃ m, w'' = w.drewN m :=
  h.mono fun _ _ ⟨he, hm⟩ => ⟨he, n, hm.symm⟩


def textL (s : ByteArray) : Bool := s.data.toList.all fun b => priB b.toNat

theorem l1Printed_any (s : ByteArray) (hs : s.size ≤ maxLen) (w : World) :
    Calls Tryd.prog 32 #[.string s] w fun e w' => e = .returned (.bool (textL s)) ∧ w = w' := by
  unfold maxLen at hs
  go_enter Tryd.func32, Tryd.ntmps32
  go_wp2
  go_loop [3] (fun i => ∃ k : Nat, k ≤ s.size ∧ i = .int .i64 k ∧ Hid ((s.data.toList.take k).all (fun b => priB b.toNat) = true)) (fun i => s.size - (intOf i).toNat)
  case atStart => exact ⟨0, Nat.zero_le _, rfl, hide (by simp)⟩
  case round =>
    obtain ⟨k, hk, rfl, hall⟩ := hrel
    by_cases hlt : k < s.size
    · have hpr : priB (s[k].toNat : Int) = decide (32 ≤ (s[k].toNat : Int) ∧ (s[k].toNat : Int) ≤ 126) := rfl
      have HP := hide hpr
      clear hpr
      go_wp2
      all_goals first
        | exact ⟨⟨k + 1, by omega, by go_num, hide (by rw [all_take_succ _ _ _ hlt, unhide hall, unhide HP]; simp; omega)⟩, by simp [intOf]; omega⟩
        | (go_ret; exact ⟨ret_bool (by unfold textL; rw [all_false_of _ s k hlt (by rw [unhide HP]; simp; omega)]), rfl⟩)
    · go_wp2
      go_ret
      have e : k = s.size := by omega
      subst e
      exact ⟨ret_bool (by unfold textL; rw [← take_whole s, unhide hall]), rfl⟩

set_option maxRecDepth 8000 in
theorem goodText_any (s : ByteArray) (hs : s.size ≤ maxLen) (w : World) :
    Calls Tryd.prog 50 #[.string s] w fun e w' => e = .returned (.bool (decide (s.size ≤ 200) && textL s)) ∧ Below w.heap.size w w' := by
  unfold maxLen at hs
  by_cases h2 : 200 < s.size
  · have hg := hide (decide_eq_false (p := s.size ≤ 200) (by omega))
    go_enter Tryd.func50, Tryd.ntmps50
    go_wp2
    go_ret
    exact ⟨ret_bool (by rw [unhide hg]; rfl), Below.refl _ _⟩
  have d2 : decide (200 < (s.size : Int)) = false := by simp; omega
  have hg := hide (decide_eq_true (p := s.size ≤ 200) (by omega))
  obtain ⟨cap, w1, hrun, hbel, hcell⟩ := conv_bytes s w
  go_enter Tryd.func50, Tryd.ntmps50
  go_wp2
  go_loop [11] (fun i => ∃ k : Nat, k ≤ s.size ∧ i = .int .i64 k ∧ Hid ((s.data.toList.take k).all (fun b => priB b.toNat) = true)) (fun i => s.size - (intOf i).toNat)
  case atStart => exact ⟨0, Nat.zero_le _, rfl, hide (by simp)⟩
  case round =>
    obtain ⟨k, hk, rfl, hall⟩ := hrel
    by_cases hlt : k < s.size
    · have hck := hcell k hlt
      clear hcell hrun
      cases hl : priB (s[k].toNat : Int)
      all_goals
        have HL := hide hl
        clear hl
        go_wp2_with (go_at_call 62; refine (isPrinted_any _ _).mono ?_; rintro e w' ⟨rfl, rfl⟩; rw [unhide HL])
        first
          | exact ⟨⟨k + 1, by omega, by go_num, hide (by rw [all_take_succ _ _ _ hlt, unhide hall, unhide HL]; rfl)⟩, by simp [intOf]; omega⟩
          | (go_ret; exact ⟨ret_bool (by unfold textL; rw [all_false_of _ s k hlt (unhide HL)]; simp), hbel⟩)
    · go_wp2
      go_ret
      have e : k = s.size := by omega
      subst e
      exact ⟨ret_bool (by unfold textL; rw [unhide hg, ← take_whole s, unhide hall]; rfl), hbel⟩
end Go.Proofs.YtdhpfhpegaekpaaDoor
