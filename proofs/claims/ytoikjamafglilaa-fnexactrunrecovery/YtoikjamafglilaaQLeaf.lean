/- LEAVES: the functions on one byte. -/
import Derived.Test.YtoikjamafglilaaRows
import Derived.Test.YtoikjamafglilaaQPlain
import Derived.WalkKit
import Derived.WalkSpells
import Derived.WalkLawsBesides
namespace Go.Proofs.Ytoikjamafglilaa
open Go.RowKit

theorem hide {p : Prop} (h : p) : Hid p := h
theorem unhide {p : Prop} (h : Hid p) : p := h.out

/-- A new block behind what is kept. -/
theorem bAl {w w' : World} (h : Below w.heap.size w w') (o : Obj) : Below w.heap.size w (w'.alloc o) := h.alloc h.size o
theorem bTr {w a b : World} (h : Below w.heap.size w a) (k : Below a.heap.size a b) : Below w.heap.size w b := h.trans (k.mono h.size)

theorem ret_bool {a b : Bool} (h : a = b) : Ending.returned (.bool a) = .returned (.bool b) := by rw [h]

theorem l1Digit_any (n : Int) (w : World) : Calls Try.prog 28 #[.int .u8 n] w fun e w' => e = .returned (.bool (digB n)) ∧ w = w' := by
  go_enter Try.func28, Try.ntmps28
  go_wp2
  all_goals go_ret
  all_goals refine ⟨ret_bool ?_, rfl⟩
  all_goals (rw [Bool.eq_iff_iff]; simp [digB]; try omega)

theorem l1Letter_any (n : Int) (w : World) : Calls Try.prog 29 #[.int .u8 n] w fun e w' => e = .returned (.bool (letB n)) ∧ w = w' := by
  go_enter Try.func29, Try.ntmps29
  go_wp2
  all_goals go_ret
  all_goals refine ⟨ret_bool ?_, rfl⟩
  all_goals (rw [Bool.eq_iff_iff]; simp [letB]; try omega)

theorem isLetter_any (n : Int) (w : World) : Calls Try.prog 56 #[.int .u8 n] w fun e w' => e = .returned (.bool (letB n)) ∧ w = w' := by
  go_enter Try.func56, Try.ntmps56
  go_wp2
  all_goals go_ret
  all_goals refine ⟨ret_bool ?_, rfl⟩
  all_goals (rw [Bool.eq_iff_iff]; simp [letB]; try omega)

theorem isDigit_any (n : Int) (w : World) : Calls Try.prog 48 #[.int .u8 n] w fun e w' => e = .returned (.bool (digB n)) ∧ w = w' := by
  go_enter Try.func48, Try.ntmps48
  go_wp2
  all_goals go_ret
  all_goals refine ⟨ret_bool ?_, rfl⟩
  all_goals (rw [Bool.eq_iff_iff]; simp [digB]; try omega)

theorem startsName_any (n : Int) (w : World) : Calls Try.prog 47 #[.int .u8 n] w fun e w' => e = .returned (.bool (namB n)) ∧ w = w' := by
  have hl : namB n = (letB n || n == 95) := by rw [Bool.eq_iff_iff]; simp [namB, letB]
  rw [hl]; clear hl
  cases hb : letB n
  all_goals
    have H : Hid (letB n = _) := hb
    clear hb
    go_enter Try.func47, Try.ntmps47
    go_wp2_with (go_at_call 56; refine (isLetter_any _ _).mono ?_; rintro e w' ⟨rfl, rfl⟩; rw [H.out])
    go_ret
    refine ⟨ret_bool ?_, rfl⟩
    simp
end Go.Proofs.Ytoikjamafglilaa
