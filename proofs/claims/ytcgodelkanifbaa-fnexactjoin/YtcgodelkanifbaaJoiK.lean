/- impl.Join at any length; laws.eqShare, szShareS. -/
import Derived.Test.YtcgodelkanifbaaJoiI
namespace Go.Proofs.Ytcgodelkanifbaa
open Go.RowKit

theorem goodShares_no (a : Option Addr) (len cap : Nat) (w : World) (h : len < 1 ∨ 20 < len) (hm : len ≤ 1048576) :
    Calls Try.prog 39 #[.slice a len cap] w fun e w' => e = .returned (.bool false) ∧ w = w' := by
  rcases h with h | h
  · obtain rfl : len = 0 := by omega
    go_enter Try.func39, Try.ntmps39
    go_wp2_with fail
    go_ret
    exact ⟨rfl, rfl⟩
  · have d1 : decide ((len : Int) < 1) = false := by simp; omega
    have d2 : decide ((20 : Int) < (len : Int)) = true := by simp; omega
    go_enter Try.func39, Try.ntmps39
    go_wp2_with fail
    go_ret
    exact ⟨rfl, rfl⟩
theorem iJoin_no (a : Option Addr) (len cap : Nat) (w : World) (h : len < 1 ∨ 20 < len) (hm : len ≤ 1048576) :
    Calls Try.prog 24 #[.slice a len cap] w fun e w' => e = .returned (.tuple #[.int .i64 0, .bool false]) ∧ w = w' := by
  have hq := hide (fun w => goodShares_no a len cap w h hm)
  clear h
  go_enter Try.func24, Try.ntmps24
  go_wp2_with fail
  refine (unhide hq _).mono ?_
  rintro e w1 ⟨rfl, rfl⟩
  go_wp2_with fail
  go_ret2
  exact ⟨rfl, rfl⟩
theorem szShare_any (a : Option Addr) (len cap : Nat) (w : World) (hm : len ≤ maxLen) :
    Calls Try.prog 21 #[.slice a len cap, .int .i64 1048576] w fun e w' => e = .returned (.int .i64 (if len ≤ 1048576 then 1048576 - (len : Int) else -1)) ∧ w = w' := by
  unfold maxLen at hm
  by_cases h : len ≤ 1048576
  · rw [if_pos h]
    go_enter Try.func21, Try.ntmps21
    go_wp2_with fail
    go_ret
    exact ⟨rfl, rfl⟩
  · rw [if_neg h]
    go_enter Try.func21, Try.ntmps21
    go_wp2_with fail
    go_ret
    exact ⟨rfl, rfl⟩
theorem eqShare_same (x y : Int) (w : World) : Calls Try.prog 41 #[.agg #[.int .i64 x, .int .i64 y], .agg #[.int .i64 x, .int .i64 y]] w fun e w' => e = .returned (.bool true) ∧ Below w.heap.size w w' := by
  have B := hide (bAl (bAl (Below.refl w.heap.size w) (.cells #[.int .i64 x, .int .i64 y] 52)) (.cells #[.int .i64 x, .int .i64 y] 52))
  go_enter Try.func41, Try.ntmps41
  go_wp2_with fail
  go_ret
  exact ⟨rfl, unhide B⟩
end Go.Proofs.Ytcgodelkanifbaa
