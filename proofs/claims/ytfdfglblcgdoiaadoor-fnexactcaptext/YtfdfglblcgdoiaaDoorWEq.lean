/- WEq, ported from seat 1a. -/
import Derived.Test.YtfdfglblcgdoiaaDoorWRow
namespace Go.Proofs.YtfdfglblcgdoiaaDoor.V
open Go.RowKit

theorem eqAtom_same (x n : Int) (t y : ByteArray) (w : World) :
    Calls Tryd.prog 61 #[.agg #[.int .i64 x, .int .i64 n, .string t, .string y], .agg #[.int .i64 x, .int .i64 n, .string t, .string y]] w fun e w' => e = .returned (.bool true) ∧ Below w.heap.size w w' := by
  go_enter Tryd.func61, Tryd.ntmps61
  go_wp2
  go_ret
  exact ⟨rfl, bAl (bAl (Below.refl _ _) _) _⟩

end Go.Proofs.YtfdfglblcgdoiaaDoor.V
