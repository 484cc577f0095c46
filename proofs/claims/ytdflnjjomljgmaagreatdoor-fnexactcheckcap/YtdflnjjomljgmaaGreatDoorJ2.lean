/- QPlain, QLeaf, one behind the other. -/
import Derived.WalkKit
import Derived.Test.YtdflnjjomljgmaaGreatDoorRows
import Derived.WalkSpells
import Derived.WalkLawsBesides
/- PLAIN: the bytes of names, texts; no program here. -/
namespace Go.Proofs.YtdflnjjomljgmaaGreatDoor

def digB (n : Int) : Bool := decide (48 ≤ n ∧ n ≤ 57)
def letB (n : Int) : Bool := decide ((97 ≤ n ∧ n ≤ 122) ∨ (65 ≤ n ∧ n ≤ 90))
def namB (n : Int) : Bool := decide (((97 ≤ n ∧ n ≤ 122) ∨ (65 ≤ n ∧ n ≤ 90)) ∨ n = 95)
def priB (n : Int) : Bool := decide (32 ≤ n ∧ n ≤ 126)
def okcB (b : UInt8) : Bool := namB b.toNat || digB b.toNat

/-- A name: 1 to 30 bytes, the first no digit, each a letter, a digit or an underscore. -/
def nameL (l : List UInt8) : Bool := decide (1 ≤ l.length) && decide (l.length ≤ 30) && !digB ((l[0]?.getD 0).toNat : Int) && l.all okcB
def goodName (s : ByteArray) : Bool := nameL s.data.toList

theorem take_snoc (s : ByteArray) (k : Nat) (h : k < s.size) : s.data.toList.take (k + 1) = s.data.toList.take k ++ [s[k]] := by
  rw [List.take_succ_eq_append_getElem (by simpa using h)]; rfl
theorem take_whole (s : ByteArray) : s.data.toList.take s.size = s.data.toList := List.take_of_length_le (by simp)
theorem all_take_succ (p : UInt8 → Bool) (s : ByteArray) (k : Nat) (h : k < s.size) : (s.data.toList.take (k + 1)).all p = ((s.data.toList.take k).all p && p s[k]) := by
  rw [take_snoc s k h]; simp
theorem all_false_of (p : UInt8 → Bool) (s : ByteArray) (k : Nat) (h : k < s.size) (hp : p s[k] = false) : s.data.toList.all p = false := by
  rw [List.all_eq_false]
  exact ⟨s[k], by show s.data[k] ∈ s.data.toList; simp, by simp [hp]⟩
end Go.Proofs.YtdflnjjomljgmaaGreatDoor
/- LEAVES: the functions on one byte. -/
namespace Go.Proofs.YtdflnjjomljgmaaGreatDoor
open Go.RowKit

theorem hide {p : Prop} (h : p) : Hid p := h
theorem unhide {p : Prop} (h : Hid p) : p := h.out

/-- A new block behind what is kept. -/
theorem bAl {w w' : World} (h : Below w.heap.size w w') (o : Obj) : Below w.heap.size w (w'.alloc o) := h.alloc h.size o
theorem bTr {w a b : World} (h : Below w.heap.size w a) (k : Below a.heap.size a b) : Below w.heap.size w b := h.trans (k.mono h.size)

theorem ret_bool {a b : Bool} (h : a = b) : Ending.returned (.bool a) = .returned (.bool b) := by rw [h]

theorem l1Digit_any (n : Int) (w : World) : Calls Tryz.prog 62 #[.int .u8 n] w fun e w' => e = .returned (.bool (digB n)) ∧ w = w' := by
  go_enter Tryz.func62, Tryz.ntmps62
  go_wp2
  all_goals go_ret
  all_goals refine ⟨ret_bool ?_, rfl⟩
  all_goals (rw [Bool.eq_iff_iff]; simp [digB]; try omega)

theorem l1Letter_any (n : Int) (w : World) : Calls Tryz.prog 61 #[.int .u8 n] w fun e w' => e = .returned (.bool (letB n)) ∧ w = w' := by
  go_enter Tryz.func61, Tryz.ntmps61
  go_wp2
  all_goals go_ret
  all_goals refine ⟨ret_bool ?_, rfl⟩
  all_goals (rw [Bool.eq_iff_iff]; simp [letB]; try omega)

theorem isLetter_any (n : Int) (w : World) : Calls Tryz.prog 93 #[.int .u8 n] w fun e w' => e = .returned (.bool (letB n)) ∧ w = w' := by
  go_enter Tryz.func93, Tryz.ntmps93
  go_wp2
  all_goals go_ret
  all_goals refine ⟨ret_bool ?_, rfl⟩
  all_goals (rw [Bool.eq_iff_iff]; simp [letB]; try omega)

theorem isDigit_any (n : Int) (w : World) : Calls Tryz.prog 73 #[.int .u8 n] w fun e w' => e = .returned (.bool (digB n)) ∧ w = w' := by
  go_enter Tryz.func73, Tryz.ntmps73
  go_wp2
  all_goals go_ret
  all_goals refine ⟨ret_bool ?_, rfl⟩
  all_goals (rw [Bool.eq_iff_iff]; simp [digB]; try omega)

theorem isPrinted_any (n : Int) (w : World) : Calls Tryz.prog 111 #[.int .u8 n] w fun e w' => e = .returned (.bool (priB n)) ∧ w = w' := by
  go_enter Tryz.func111, Tryz.ntmps111
  go_wp2
  all_goals go_ret
  all_goals refine ⟨ret_bool ?_, rfl⟩
  all_goals (rw [Bool.eq_iff_iff]; simp [priB]; try omega)

theorem startsName_any (n : Int) (w : World) : Calls Tryz.prog 72 #[.int .u8 n] w fun e w' => e = .returned (.bool (namB n)) ∧ w = w' := by
  have hl : namB n = (letB n || n == 95) := by rw [Bool.eq_iff_iff]; simp [namB, letB]
  rw [hl]; clear hl
  cases hb : letB n
  all_goals
    have H : Hid (letB n = _) := hb
    clear hb
    go_enter Tryz.func72, Tryz.ntmps72
    go_wp2_with (go_at_call 93; refine (isLetter_any _ _).mono ?_; rintro e w' ⟨rfl, rfl⟩; rw [H.out])
    go_ret
    refine ⟨ret_bool ?_, rfl⟩
    simp
end Go.Proofs.YtdflnjjomljgmaaGreatDoor
