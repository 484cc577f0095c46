/- What the laws of this seat need of the laid tables. -/
import Derived.Test.YtfbkaoepopmggaaDoorDLawKit
import Derived.Test.YtfbkaoepopmggaaDoorQItoa
import Derived.Stop.LaidErr
namespace Go.Proofs.YtfbkaoepopmggaaDoor.D
open Go.ChangeShapes Go.WideShapes Go.ChangeAt Go.RowKit

def laid4 {H : Type} : List (String × DataW H) := [("math/bits.deBruijn32tab", Rows.laid_math_bits_deBruijn32tab), ("math/bits.deBruijn64tab", Rows.laid_math_bits_deBruijn64tab), ("internal/strconv.uint64pow10", Rows.laid_internal_strconv_uint64pow10), ("loop.example/g00036/impl.multipliers", Rows.laid_loop_example_g00036_impl_multipliers)]
def laid6 {H : Type} : List (String × DataW H) := [("math/bits.deBruijn32tab", Rows.laid_math_bits_deBruijn32tab), ("math/bits.deBruijn64tab", Rows.laid_math_bits_deBruijn64tab), ("internal/strconv.uint64pow10", Rows.laid_internal_strconv_uint64pow10), ("strconv.ErrRange", Rows.laid_strconv_ErrRange), ("strconv.ErrSyntax", Rows.laid_strconv_ErrSyntax), ("loop.example/g00036/impl.multipliers", Rows.laid_loop_example_g00036_impl_multipliers)]
theorem door_met4 (os : Os) (args : Array Value) : laidMetH Tryd.prog laid4 ((World.doorLaid Tryd.prog 400 os).forCall (fun _ _ => 0) ⟨#[], args, []⟩).memory :=
  laidMetH_of_parts3 (fuel := 8) (laidMet_of_run' 8 (by kernel_rfl) (by kernel_rfl)) (by kernel_rfl) (by kernel_rfl)
theorem door_met6 (os : Os) (args : Array Value) : laidMetH Tryd.prog laid6 ((World.doorLaid Tryd.prog 400 os).forCall (fun _ _ => 0) ⟨#[], args, []⟩).memory :=
  laidMetH_of_parts3 (fuel := 8) (laidMet_of_run' 8 (by kernel_rfl) (by kernel_rfl)) (by kernel_rfl) (by kernel_rfl)
theorem pow_is : (Rows.laid_internal_strconv_uint64pow10 : DataW Unit) = Lib.tabData .u64 Lib.pow10Tab := by rfl
theorem tPow : (Tryd.prog.globals[2]?).map (·.type) = some 91 := by kernel_rfl
theorem cells_of_met {W : World} (h : laidMet Tryd.prog [("loop.example/g00036/impl.multipliers", Rows.laid_loop_example_g00036_impl_multipliers)] W) : W.var? Tryd.prog "loop.example/g00036/impl.multipliers" = some cellsM :=
  cells_of_laid (by rw [MakeChecks.laidMetH_plain _ _ _ (by kernel_rfl)]; exact h)
theorem tab_of_laid4 {W : World} (h : laidMetH Tryd.prog laid4 W) : Tab W := by
  rw [MakeChecks.laidMetH_plain _ _ _ (by kernel_rfl)] at h
  have h2 := h.tail.tail
  rw [pow_is] at h2
  exact Lib.tabIs_of_head gPow tPow Tryd.underlying91 Tryd.underlying34 (by kernel_rfl) (by kernel_rfl) h2
theorem cells_of_laid4 {W : World} (h : laidMetH Tryd.prog laid4 W) : W.var? Tryd.prog "loop.example/g00036/impl.multipliers" = some cellsM := by
  rw [MakeChecks.laidMetH_plain _ _ _ (by kernel_rfl)] at h
  exact cells_of_met h.tail.tail.tail
theorem tab_of_laid6 {W : World} (h : laidMetH Tryd.prog laid6 W) : Tab W := by
  rw [MakeChecks.laidMetH_plain _ _ _ (by kernel_rfl)] at h
  have h2 := h.tail.tail
  rw [pow_is] at h2
  exact Lib.tabIs_of_head gPow tPow Tryd.underlying91 Tryd.underlying34 (by kernel_rfl) (by kernel_rfl) h2
theorem cells_of_laid6 {W : World} (h : laidMetH Tryd.prog laid6 W) : W.var? Tryd.prog "loop.example/g00036/impl.multipliers" = some cellsM := by
  rw [MakeChecks.laidMetH_plain _ _ _ (by kernel_rfl)] at h
  exact cells_of_met h.tail.tail.tail.tail.tail
theorem gRan : Tryd.prog.globalNamed "strconv.ErrRange" = some 4 := by kernel_rfl
theorem gSyn : Tryd.prog.globalNamed "strconv.ErrSyntax" = some 3 := by kernel_rfl
theorem star : "*" ++ "errors.errorString" = "*errors.errorString" := by decide
theorem row_es (u : TypeId) (h : Tryd.prog.typeName? 3 u = some "*errors.errorString") : u = 107 :=
  typeName_ptr_named (nm := "errors.errorString") (by rw [star]; kernel_rfl) (by kernel_rfl) (by decide) u (by rw [star]; exact h)
/-- What the two errors hold: an interface value each. -/
def Errs (w : World) : Prop := (∃ tp p, w.var? Tryd.prog "strconv.ErrRange" = some #[.iface tp p]) ∧ (∃ tp p, w.var? Tryd.prog "strconv.ErrSyntax" = some #[.iface tp p])
theorem errs_of_laid6 {W : World} (h : laidMetH Tryd.prog laid6 W) : Errs W := by
  rw [MakeChecks.laidMetH_plain _ _ _ (by kernel_rfl)] at h
  constructor
  · obtain ⟨a, s, h1, _⟩ := laid_sentinel h.tail.tail.tail gRan (ti := 58) (by kernel_rfl) Tryd.underlying58 (tp := 107) row_es Tryd.underlying107 Tryd.underlying109 rfl rfl Tryd.underlying9 (by kernel_rfl) (by kernel_rfl)
    exact ⟨_, _, h1⟩
  · obtain ⟨a, s, h1, _⟩ := laid_sentinel h.tail.tail.tail.tail gSyn (ti := 58) (by kernel_rfl) Tryd.underlying58 (tp := 107) row_es Tryd.underlying107 Tryd.underlying109 rfl rfl Tryd.underlying9 (by kernel_rfl) (by kernel_rfl)
    exact ⟨_, _, h1⟩
end Go.Proofs.YtfbkaoepopmggaaDoor.D
