/- WEq, ported from seat 1a. -/
import Derived.Test.YtbgakkbniekccaaWRow
namespace Go.Proofs.Ytbgakkbniekccaa.V
open Go.RowKit

theorem eqAtom_same (x n : Int) (t y : ByteArray) (w : World) :
    Calls Try.prog 46 #[.agg #[.int .i64 x, .int .i64 n, .string t, .string y], .agg #[.int .i64 x, .int .i64 n, .string t, .string y]] w fun e w' => e = .returned (.bool true) ∧ Below w.heap.size w w' := by
  go_enter Try.func46, Try.ntmps46
  go_wp2
  go_ret
  exact ⟨rfl, bAl (bAl (Below.refl _ _) _) _⟩

end Go.Proofs.Ytbgakkbniekccaa.V
