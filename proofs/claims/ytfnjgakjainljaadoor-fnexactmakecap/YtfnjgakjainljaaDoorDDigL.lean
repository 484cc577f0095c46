/- spec.Digest. -/
import Derived.Test.YtfnjgakjainljaaDoorDDigK
namespace Go.Proofs.YtfnjgakjainljaaDoor.D
set_option maxRecDepth 20000
open Go.RowKit

theorem digD_no {l : List UInt8} (h : 20000 < l.length) : [] = digD l := (if_neg (by omega)).symm
theorem digD_yes {l : List UInt8} (h : l.length ≤ 20000) : dig l = digD l := (if_pos h).symm
theorem digD_len (l : List UInt8) : (digD l).length ≤ 16 := by
  by_cases h : l.length ≤ 20000
  · have := dig_len l
    rw [digD_yes h] at this
    omega
  · rw [← digD_no (by omega)]; simp
end Go.Proofs.YtfnjgakjainljaaDoor.D
