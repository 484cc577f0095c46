/- WSli, WTo, WEq, one behind the other. -/
import Derived.Test.YtppkgcedkdeccaaDoorJ14
import Derived.Test.YtppkgcedkdeccaaDoorJ8
/- WSli, ported from seat 1a. -/
namespace Go.Proofs.YtppkgcedkdeccaaDoor.V
open Go.RowKit

theorem make_strings (len : Nat) (w : World) (h : len ≤ 1048576) : ∃ w1 C, (Instr.makeSlice 77 (.int .i64 (len : Int)) (.int .i64 (len : Int))).run Tryd.prog w = .ok (.slice (some ⟨w.heap.size, 0, none⟩) len len) w1 ∧
    Below w.heap.size w w1 ∧ RowIs w1 w.heap.size C 9 ∧ C.size = len := by
  have hi : (Tryd.prog.info? 9).map (fun i => (i.zero, i.size, i.bytes)) = some (some (.string ByteArray.empty), 1, 16) := by kernel_rfl
  obtain ⟨i, h1, h2⟩ := Option.map_eq_some_iff.1 hi
  simp only [Prod.mk.injEq] at h2
  obtain ⟨hz, hsz, hby⟩ := h2
  have hr := run_make (P := Tryd.prog) w 77 9 i _ Tryd.underlying77 h1 hz .i64 .i64 (len : Int) (len : Int) (by omega) (by omega) (by rw [hby]; omega) (by omega)
  rw [Int.toNat_natCast, hsz, Nat.mul_one] at hr
  exact ⟨_, _, hr, bAl (Below.refl _ _) _, RowIs.new _ _ _, size_madeCells _ _⟩

end Go.Proofs.YtppkgcedkdeccaaDoor.V
/- laws.toStringS, laws.toAtomS: the new rows may be written into. -/
namespace Go.Proofs.YtppkgcedkdeccaaDoor.V
open Go.RowKit

end Go.Proofs.YtppkgcedkdeccaaDoor.V
/- WEq, ported from seat 1a. -/
namespace Go.Proofs.YtppkgcedkdeccaaDoor.V
open Go.RowKit

end Go.Proofs.YtppkgcedkdeccaaDoor.V
