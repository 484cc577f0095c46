/- QText, QNum, one behind the other. -/
import Derived.Test.YtdflnjjomljgmaaGreatDoorJ5
import Derived.Deep.QuietTactic
import Derived.BigQuiet
/- Texts: spec.l1Printed, impl.goodText. -/
namespace Go.Proofs.YtdflnjjomljgmaaGreatDoor
open Go.RowKit

/-- A callee's contract 'the very world', within a region that draws. -/
theorem quiet_same {P : Program} {f : FuncId} {args : Array Value} {w : World} {n : Nat} {v : Value}
    (h : Calls P f args (w.drewN n) fun e w' => e = .returned v ∧ w.drewN n = w') : Calls P f args (w.drewN n) fun e w'' => e = .returned v ∧ ∃ m, w'' = w.drewN m :=
  h.mono fun _ _ ⟨he, hm⟩ => ⟨he, n, hm.symm⟩


def textL (s : ByteArray) : Bool := s.data.toList.all fun b => priB b.toNat

theorem l1Printed_any (s : ByteArray) (hs : s.size ≤ maxLen) (w : World) :
    Calls Tryz.prog 85 #[.string s] w fun e w' => e = .returned (.bool (textL s)) ∧ w = w' := by
  unfold maxLen at hs
  go_enter Tryz.func85, Tryz.ntmps85
  go_wp2
  go_loop [3] (fun i => ∃ k : Nat, k ≤ s.size ∧ i = .int .i64 k ∧ Hid ((s.data.toList.take k).all (fun b => priB b.toNat) = true)) (fun i => s.size - (intOf i).toNat)
  case atStart => exact ⟨0, Nat.zero_le _, rfl, hide (by simp)⟩
  case round =>
    obtain ⟨k, hk, rfl, hall⟩ := hrel
    by_cases hlt : k < s.size
    · have hpr : priB (s[k].toNat : Int) = decide (32 ≤ (s[k].toNat : Int) ∧ (s[k].toNat : Int) ≤ 126) := rfl
      have HP := hide hpr
      clear hpr
      go_wp2
      all_goals first
        | exact ⟨⟨k + 1, by omega, by go_num, hide (by rw [all_take_succ _ _ _ hlt, unhide hall, unhide HP]; simp; omega)⟩, by simp [intOf]; omega⟩
        | (go_ret; exact ⟨ret_bool (by unfold textL; rw [all_false_of _ s k hlt (by rw [unhide HP]; simp; omega)]), rfl⟩)
    · go_wp2
      go_ret
      have e : k = s.size := by omega
      subst e
      exact ⟨ret_bool (by unfold textL; rw [← take_whole s, unhide hall]), rfl⟩

set_option maxRecDepth 8000 in
theorem goodText_any (s : ByteArray) (hs : s.size ≤ maxLen) (w : World) :
    Calls Tryz.prog 96 #[.string s] w fun e w' => e = .returned (.bool (decide (s.size ≤ 200) && textL s)) ∧ Below w.heap.size w w' := by
  unfold maxLen at hs
  by_cases h2 : 200 < s.size
  · have hg := hide (decide_eq_false (p := s.size ≤ 200) (by omega))
    go_enter Tryz.func96, Tryz.ntmps96
    go_wp2
    go_ret
    exact ⟨ret_bool (by rw [unhide hg]; rfl), Below.refl _ _⟩
  have d2 : decide (200 < (s.size : Int)) = false := by simp; omega
  have hg := hide (decide_eq_true (p := s.size ≤ 200) (by omega))
  obtain ⟨cap, w1, hrun, hbel, hcell⟩ := conv_bytes s w
  go_enter Tryz.func96, Tryz.ntmps96
  go_wp2
  go_loop [11] (fun i => ∃ k : Nat, k ≤ s.size ∧ i = .int .i64 k ∧ Hid ((s.data.toList.take k).all (fun b => priB b.toNat) = true)) (fun i => s.size - (intOf i).toNat)
  case atStart => exact ⟨0, Nat.zero_le _, rfl, hide (by simp)⟩
  case round =>
    obtain ⟨k, hk, rfl, hall⟩ := hrel
    by_cases hlt : k < s.size
    · have hck := hcell k hlt
      clear hcell hrun
      cases hl : priB (s[k].toNat : Int)
      all_goals
        have HL := hide hl
        clear hl
        go_wp2_with (go_at_call 111; refine (isPrinted_any _ _).mono ?_; rintro e w' ⟨rfl, rfl⟩; rw [unhide HL])
        first
          | exact ⟨⟨k + 1, by omega, by go_num, hide (by rw [all_take_succ _ _ _ hlt, unhide hall, unhide HL]; rfl)⟩, by simp [intOf]; omega⟩
          | (go_ret; exact ⟨ret_bool (by unfold textL; rw [all_false_of _ s k hlt (unhide HL)]; simp), hbel⟩)
    · go_wp2
      go_ret
      have e : k = s.size := by omega
      subst e
      exact ⟨ret_bool (by unfold textL; rw [unhide hg, ← take_whole s, unhide hall]; rfl), hbel⟩
end Go.Proofs.YtdflnjjomljgmaaGreatDoor
/- NUMBERS: spec.l1Pow2 (39), impl.block.size (36), impl.blockOf (35), spec.l1Block (37); texts: spec.l1Printed (38), impl.goodText (51). -/
namespace Go.Proofs.YtdflnjjomljgmaaGreatDoor
open Go.RowKit

def pw (k : Nat) : Int := 2 ^ k
theorem pw_zero : pw 0 = 1 := rfl
theorem pw_succ (k : Nat) : pw (k + 1) = pw k * 2 := by unfold pw; rw [Int.pow_succ]
theorem pw_pos (k : Nat) : 1 ≤ pw k := by
  induction k with
  | zero => simp [pw_zero]
  | succ k ih => rw [pw_succ]; omega
theorem pw_mono {a b : Nat} (h : a ≤ b) : pw a ≤ pw b := by
  induction b with
  | zero => simp at h; subst h; exact Int.le_refl _
  | succ b ih =>
    by_cases e : a = b + 1
    · subst e; exact Int.le_refl _
    · have := ih (by omega); have := pw_pos b; rw [pw_succ]; omega
theorem pw_32 : pw 32 = 4294967296 := by decide
theorem pw_le {k : Nat} (h : k ≤ 32) : pw k ≤ 4294967296 := by rw [← pw_32]; exact pw_mono h

theorem ret_int {k : IntKind} {a b : Int} (h : a = b) : Ending.returned (.int k a) = .returned (.int k b) := by rw [h]

theorem l1Pow2_any (n : Int) (w : World) (h0 : 0 ≤ n) (h1 : n ≤ 32) :
    Calls Tryz.prog 86 #[.int .i64 n] w fun e w' => e = .returned (.int .i64 (pw n.toNat)) ∧ w = w' := by
  obtain ⟨m, rfl⟩ := Int.eq_ofNat_of_zero_le h0
  rw [Int.toNat_natCast]
  go_enter Tryz.func86, Tryz.ntmps86
  go_wp2
  go_loop [3, 4] (fun o i => ∃ k : Nat, k ≤ m ∧ i = .int .i64 k ∧ o = .int .i64 (pw k)) (fun _ i => m - (intOf i).toNat)
  case atStart => exact ⟨0, Nat.zero_le _, rfl, rfl⟩
  case round =>
    obtain ⟨k, hk, rfl, rfl⟩ := hrel
    have hb := pw_le (k := k) (by omega)
    have hp := pw_pos k
    by_cases hlt : k < m
    · go_wp2
      exact ⟨⟨k + 1, by omega, by go_num, by rw [pw_succ]⟩, by simp [intOf]; omega⟩
    · go_wp2
      go_ret
      have e : k = m := by omega
      subst e
      exact ⟨rfl, rfl⟩

theorem wrap_pw {k : Nat} (h : k ≤ 32) : wrap64 (2 ^ k) = pw k := by
  have h1 := pw_le h
  have h2 := pw_pos k
  show wrap64 (pw k) = pw k
  simp only [wrap64]; omega

theorem size_any (f b : Int) (w : World) (h0 : 0 ≤ b) (h1 : b ≤ 32) :
    Calls Tryz.prog 130 #[.agg #[.int .i64 f, .int .i64 b]] w fun e w' => e = .returned (.int .i64 (pw (32 - b).toNat)) ∧ w' = w.alloc (.cells #[.int .i64 f, .int .i64 b] 141) := by
  go_enter Tryz.func130, Tryz.ntmps130
  go_wp2
  go_ret
  exact ⟨ret_int (wrap_pw (by omega)), rfl⟩

theorem blockOf_any (n : Int) (w : World) (h0 : 0 ≤ n) (h1 : n ≤ 9223372036854775807) :
    Calls Tryz.prog 129 #[.int .i64 n] w fun e w' => e = .returned (.agg #[.int .i64 (n / 64), .int .i64 (n % 64)]) ∧ w' = w.alloc (.cells #[.int .i64 (n / 64), .int .i64 (n % 64)] 141) := by
  go_enter Tryz.func129, Tryz.ntmps129
  go_wp2
  exact bodyPost_ret (v := .agg #[.int .i64 (n / 64), .int .i64 (n % 64)]) (by simp [results, Tryz.results129, go_sem]) rfl ⟨rfl, rfl⟩

theorem l1Block_any (k n : Int) (t ty : ByteArray) (w : World) (h0 : 0 ≤ n) (h1 : n ≤ 9223372036854775807) (h2 : n % 64 ≤ 32) :
    Calls Tryz.prog 71 #[.agg #[.int .i64 k, .int .i64 n, .string t, .string ty]] w fun e w' => e = .returned (.tuple #[.int .i64 (n / 64), .int .i64 (pw (32 - n % 64).toNat)]) ∧ Below w.heap.size w w' := by
  have e1 : n.tmod 64 = n % 64 := Int.tmod_eq_emod_of_nonneg h0
  have e2 : n.tdiv 64 = n / 64 := Int.tdiv_eq_ediv_of_nonneg h0
  have e3 : IntKind.i64.wrap (32 - n % 64) = 32 - n % 64 := by rw [IntKind.wrap_i64]; omega
  have e4 : IntKind.i64.wrap (n / 64) = n / 64 := by rw [IntKind.wrap_i64]; omega
  have hc := hide (fun w => l1Pow2_any (32 - n % 64) w (by omega) (by omega))
  go_enter Tryz.func71, Tryz.ntmps71
  go_wp2
  go_quiet ((go_at_call 86; exact quiet_same (unhide hc _)))
  go_wp2
  go_ret2
  exact ⟨rfl, below_drewN ((Below.refl _ _).alloc (Nat.le_refl _) _) _⟩

end Go.Proofs.YtdflnjjomljgmaaGreatDoor
