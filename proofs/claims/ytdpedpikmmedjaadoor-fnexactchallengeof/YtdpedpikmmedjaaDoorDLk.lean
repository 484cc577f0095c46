/- What the laws of this seat need of the laid tables. -/
import Derived.Test.YtdpedpikmmedjaaDoorDLawKit
import Derived.Test.YtdpedpikmmedjaaDoorQItoa
import Derived.Stop.LaidErr
namespace Go.Proofs.YtdpedpikmmedjaaDoor.D
open Go.ChangeShapes Go.WideShapes Go.ChangeAt Go.RowKit

def laid4 {H : Type} : List (String × DataW H) := [("math/bits.deBruijn32tab", Rows.laid_math_bits_deBruijn32tab), ("math/bits.deBruijn64tab", Rows.laid_math_bits_deBruijn64tab), ("internal/strconv.uint64pow10", Rows.laid_internal_strconv_uint64pow10), ("loop.example/g00036/impl.multipliers", Rows.laid_loop_example_g00036_impl_multipliers)]
theorem door_met4 (os : Os) (args : Array Value) : laidMetH Tryd.prog laid4 ((World.doorLaid Tryd.prog 400 os).forCall (fun _ _ => 0) ⟨#[], args, []⟩).memory :=
  laidMetH_of_parts3 (fuel := 8) (laidMet_of_run' 8 (by kernel_rfl) (by kernel_rfl)) (by kernel_rfl) (by kernel_rfl)
theorem pow_is : (Rows.laid_internal_strconv_uint64pow10 : DataW Unit) = Lib.tabData .u64 Lib.pow10Tab := by rfl
theorem tPow : (Tryd.prog.globals[1]?).map (·.type) = some 61 := by kernel_rfl
theorem cells_of_met {W : World} (h : laidMet Tryd.prog [("loop.example/g00036/impl.multipliers", Rows.laid_loop_example_g00036_impl_multipliers)] W) : W.var? Tryd.prog "loop.example/g00036/impl.multipliers" = some cellsM :=
  cells_of_laid (by rw [MakeChecks.laidMetH_plain _ _ _ (by kernel_rfl)]; exact h)
theorem tab_of_laid4 {W : World} (h : laidMetH Tryd.prog laid4 W) : Tab W := by
  rw [MakeChecks.laidMetH_plain _ _ _ (by kernel_rfl)] at h
  have h2 := h.tail.tail
  rw [pow_is] at h2
  exact Lib.tabIs_of_head gPow tPow Tryd.underlying61 Tryd.underlying54 (by kernel_rfl) (by kernel_rfl) h2
theorem cells_of_laid4 {W : World} (h : laidMetH Tryd.prog laid4 W) : W.var? Tryd.prog "loop.example/g00036/impl.multipliers" = some cellsM := by
  rw [MakeChecks.laidMetH_plain _ _ _ (by kernel_rfl)] at h
  exact cells_of_met h.tail.tail.tail
end Go.Proofs.YtdpedpikmmedjaaDoor.D
