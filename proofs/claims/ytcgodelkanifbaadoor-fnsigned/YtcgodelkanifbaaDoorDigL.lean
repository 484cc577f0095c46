/- spec.Digest. -/
import Derived.Test.YtcgodelkanifbaaDoorDigK
namespace Go.Proofs.YtcgodelkanifbaaDoor
open Go.RowKit

theorem digD_no {l : List UInt8} (h : 20000 < l.length) : [] = digD l := (if_neg (by omega)).symm
theorem digD_yes {l : List UInt8} (h : l.length ≤ 20000) : dig l = digD l := (if_pos h).symm
theorem sDigest_any (ad : Option Addr) (len cap : Nat) (l : List UInt8) (w : World) (hl : len ≤ maxLen) (hs : SlB w w.heap.size ad len l) :
    Calls Tryd.prog 20 #[.slice ad len cap] w fun e w' => ∃ v D, Hid (D = digD l) ∧ e = .returned v ∧ w'.ownsRow w.heap.size 5 1 v D.length (D.map byteV) ∧ Below w.heap.size w w' := by
  unfold maxLen at hl
  have HS := hide hs
  have hll := hide hs.1
  clear hs
  by_cases h : 20000 < len
  · have hd := hide (digD_no (l := l) (by rw [← unhide hll]; exact h))
    go_enter Tryd.func20, Tryd.ntmps20
    go_wp2_with fail
    go_ret
    exact ⟨_, [], hd, rfl, World.ownsRow_nil _ _ _ _, Below.refl _ _⟩
  have hd := hide (show l.length ≤ 20000 by rw [← unhide hll]; omega)
  have h2 : len ≤ 1048576 := by omega
  clear hl
  go_enter Tryd.func20, Tryd.ntmps20
  go_wp2_with fail
  refine (l2Digest_any ad len cap l _ h2 (unhide HS)).mono ?_
  rintro e w1 ⟨v, D, hD, rfl, ho, hb⟩
  go_wp2_with fail
  go_ret
  exact ⟨_, D, hide ((unhide hD).trans (digD_yes (unhide hd))), rfl, ho, hb⟩
theorem digD_len (l : List UInt8) : (digD l).length ≤ 16 := by
  by_cases h : l.length ≤ 20000
  · have := dig_len l
    rw [digD_yes h] at this
    omega
  · rw [← digD_no (by omega)]; simp
end Go.Proofs.YtcgodelkanifbaaDoor
