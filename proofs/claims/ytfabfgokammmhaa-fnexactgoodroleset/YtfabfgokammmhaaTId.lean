/- Ids: impl.isId, spec.l7Id. -/
import Derived.Test.YtfabfgokammmhaaQText
namespace Go.Proofs.Ytfabfgokammmhaa
open Go.RowKit
set_option maxRecDepth 20000

def idcB (c : UInt8) : Bool := namB (c.toNat : Int) || digB (c.toNat : Int) || !((c.toNat : Int) != 45) || !((c.toNat : Int) != 46)
def idB (s : ByteArray) : Bool := decide (1 ≤ s.size ∧ s.size ≤ 40) && s.data.toList.all idcB
theorem nam_let (n : Int) : namB n = (letB n || !(n != 95)) := by
  rw [Bool.eq_iff_iff]
  simp [namB, letB]
theorem idB_size {s : ByteArray} (h : s.size < 1 ∨ 40 < s.size) : idB s = false := by
  unfold idB
  rw [decide_eq_false (by omega)]; rfl
theorem idB_of {s : ByteArray} (h1 : 1 ≤ s.size) (h2 : s.size ≤ 40) : idB s = s.data.toList.all idcB := by
  unfold idB
  rw [decide_eq_true (by omega)]; rfl

end Go.Proofs.Ytfabfgokammmhaa
