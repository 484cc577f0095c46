/- LEAVES: the functions on one byte. -/
import Derived.Test.YtdhpfhpegaekpaaDoorRows
import Derived.Test.YtdhpfhpegaekpaaDoorQPlain
import Derived.WalkKit
import Derived.WalkSpells
import Derived.WalkLawsBesides
namespace Go.Proofs.YtdhpfhpegaekpaaDoor
open Go.RowKit

theorem hide {p : Prop} (h : p) : Hid p := h
theorem unhide {p : Prop} (h : Hid p) : p := h.out

/-- A new block behind what is kept. -/
theorem bAl {w w' : World} (h : Below w.heap.size w w') (o : Obj) : Below w.heap.size w (w'.alloc o) := h.alloc h.size o
theorem bTr {w a b : World} (h : Below w.heap.size w a) (k : Below a.heap.size a b) : Below w.heap.size w b := h.trans (k.mono h.size)

theorem ret_bool {a b : Bool} (h : a = b) : Ending.returned (.bool a) = .returned (.bool b) := by rw [h]

theorem l1Digit_any (n : Int) (w : World) : Calls Tryd.prog 40 #[.int .u8 n] w fun e w' => e = .returned (.bool (digB n)) ∧ w = w' := by
  go_enter Tryd.func40, Tryd.ntmps40
  go_wp2
  all_goals go_ret
  all_goals refine ⟨ret_bool ?_, rfl⟩
  all_goals (rw [Bool.eq_iff_iff]; simp [digB]; try omega)

theorem l1Letter_any (n : Int) (w : World) : Calls Tryd.prog 41 #[.int .u8 n] w fun e w' => e = .returned (.bool (letB n)) ∧ w = w' := by
  go_enter Tryd.func41, Tryd.ntmps41
  go_wp2
  all_goals go_ret
  all_goals refine ⟨ret_bool ?_, rfl⟩
  all_goals (rw [Bool.eq_iff_iff]; simp [letB]; try omega)

theorem isLetter_any (n : Int) (w : World) : Calls Tryd.prog 66 #[.int .u8 n] w fun e w' => e = .returned (.bool (letB n)) ∧ w = w' := by
  go_enter Tryd.func66, Tryd.ntmps66
  go_wp2
  all_goals go_ret
  all_goals refine ⟨ret_bool ?_, rfl⟩
  all_goals (rw [Bool.eq_iff_iff]; simp [letB]; try omega)

theorem isDigit_any (n : Int) (w : World) : Calls Tryd.prog 58 #[.int .u8 n] w fun e w' => e = .returned (.bool (digB n)) ∧ w = w' := by
  go_enter Tryd.func58, Tryd.ntmps58
  go_wp2
  all_goals go_ret
  all_goals refine ⟨ret_bool ?_, rfl⟩
  all_goals (rw [Bool.eq_iff_iff]; simp [digB]; try omega)

theorem isPrinted_any (n : Int) (w : World) : Calls Tryd.prog 62 #[.int .u8 n] w fun e w' => e = .returned (.bool (priB n)) ∧ w = w' := by
  go_enter Tryd.func62, Tryd.ntmps62
  go_wp2
  all_goals go_ret
  all_goals refine ⟨ret_bool ?_, rfl⟩
  all_goals (rw [Bool.eq_iff_iff]; simp [priB]; try omega)

theorem startsName_any (n : Int) (w : World) : Calls Tryd.prog 57 #[.int .u8 n] w fun e w' => e = .returned (.bool (namB n)) ∧ w = w' := by
  have hl : namB n = (letB n || n == 95) := by rw [Bool.eq_iff_iff]; simp [namB, letB]
  rw [hl]; clear hl
  cases hb : letB n
  all_goals
    have H : Hid (letB n = _) := hb
    clear hb
    go_enter Tryd.func57, Tryd.ntmps57
    go_wp2_with (go_at_call 66; refine (isLetter_any _ _).mono ?_; rintro e w' ⟨rfl, rfl⟩; rw [H.out])
    go_ret
    refine ⟨ret_bool ?_, rfl⟩
    simp
end Go.Proofs.YtdhpfhpegaekpaaDoor
