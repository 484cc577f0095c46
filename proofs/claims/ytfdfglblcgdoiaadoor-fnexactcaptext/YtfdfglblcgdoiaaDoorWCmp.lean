/- WCmp, ported from seat 1a. -/
import Derived.Test.YtfdfglblcgdoiaaDoorWCmpP
import Derived.Test.YtfdfglblcgdoiaaDoorQNum
import Derived.Test.YtfdfglblcgdoiaaDoorWKept
namespace Go.Proofs.YtfdfglblcgdoiaaDoor.V
open Go.RowKit

theorem bne_zero {c : Int} (h : ¬ c = 0) : (c != 0) = true := by simpa using h

def orFrom (v0 v1 v2 v3 : Int) : Nat → Int
  | 0 => orI v0 (orI v1 (orI v2 v3))
  | 1 => orI v1 (orI v2 v3)
  | 2 => orI v2 v3
  | 3 => v3
  | _ => 0
theorem orI_zero (b : Int) : orI 0 b = b := by unfold orI; rw [if_pos rfl]
theorem orI_not {a : Int} (h : ¬ a = 0) (b : Int) : orI a b = a := by unfold orI; rw [if_neg h]

end Go.Proofs.YtfdfglblcgdoiaaDoor.V
