/- Marks from a greater number on. -/
import Derived.Test.YtcgodelkanifbaaDoorMark
namespace Go.Proofs.YtcgodelkanifbaaDoor
open Go.RowKit

set_option maxHeartbeats 400000 in
theorem mark_more (g n cap : Nat) (C : Array Value) (k : Int) (w : World) (hn : n ≤ 1048576) (hk : 0 ≤ k) (hk2 : k ≤ 4000000) (hC : n ≤ C.size) (hr : RowIs w g C 5) :
    Calls Tryd.prog 24 #[.slice (some ⟨g, 0, none⟩) n cap, .int .i64 k] w fun e w' => e = .returned (.int .i64 (k + n)) ∧ (∃ C', C'.size = C.size ∧ MarkedTo C' k n ∧ RowIs w' g C' 5) ∧ But g w w' := by
  have HR := hide hr
  have HC := hide hC
  clear hr hC
  go_enter Tryd.func24, Tryd.ntmps24
  go_wp2_with fail
  go_loopw [1, 5] (fun q i w' => ∃ (j : Nat) (C' : Array Value), j ≤ n ∧ i = .int .i64 j ∧ q = .int .i64 (k + j) ∧ Hid (C'.size = C.size) ∧ Hid (MarkedTo C' k j) ∧ Hid (RowIs w' g C' 5) ∧ Hid (But g w w')) (fun _ i _ => n - (intOf i).toNat)
  case atStart => exact ⟨0, C, Nat.zero_le _, rfl, by simp, hide rfl, hide (fun i hi => absurd hi (Nat.not_lt_zero _)), HR, hide (But.refl _ _)⟩
  case round =>
    obtain ⟨j, C', hj, rfl, rfl, hsz, hM, hr', hbut⟩ := hrel
    by_cases hlt : j < n
    · have hjC : j < C'.size := by rw [unhide hsz]; exact Nat.lt_of_lt_of_le hlt (unhide HC)
      have fr := (unhide hr').froz j
      have c1 := (unhide hr').at (o := j) (v := C'[j]) (by simp)
      have hM' := hide ((unhide hM).set hjC)
      generalize C'[j] = D at c1
      go_wp2_with fail
      exact ⟨⟨j + 1, C'.setIfInBounds j (markV k j), by omega, by go_num, by simp only [Value.int.injEq, true_and]; omega, hide (by rw [Array.size_setIfInBounds]; exact unhide hsz), hM', hide ((unhide hr').set j _), hide ((unhide hbut).set _)⟩, by simp [intOf]; omega⟩
    · go_wp2_with fail
      go_ret
      have e : j = n := by omega
      subst e
      exact ⟨rfl, ⟨C', unhide hsz, unhide hM, unhide hr'⟩, unhide hbut⟩

end Go.Proofs.YtcgodelkanifbaaDoor
