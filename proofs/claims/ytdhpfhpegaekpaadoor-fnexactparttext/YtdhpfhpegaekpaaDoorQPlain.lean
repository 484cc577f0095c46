/- PLAIN: the bytes of names, texts; no program here. -/
import Derived.WalkKit
namespace Go.Proofs.YtdhpfhpegaekpaaDoor

def digB (n : Int) : Bool := decide (48 ≤ n ∧ n ≤ 57)
def letB (n : Int) : Bool := decide ((97 ≤ n ∧ n ≤ 122) ∨ (65 ≤ n ∧ n ≤ 90))
def namB (n : Int) : Bool := decide (((97 ≤ n ∧ n ≤ 122) ∨ (65 ≤ n ∧ n ≤ 90)) ∨ n = 95)
def priB (n : Int) : Bool := decide (32 ≤ n ∧ n ≤ 126)
def okcB (b : UInt8) : Bool := namB b.toNat || digB b.toNat

/-- A name: 1 to 30 bytes, the first no digit, each a letter, a digit or an underscore. -/
def nameL (l : List UInt8) : Bool := decide (1 ≤ l.length) && decide (l.length ≤ 30) && !digB ((l[0]?.getD 0).toNat : Int) && l.all okcB
def goodName (s : ByteArray) : Bool := nameL s.data.toList

theorem take_snoc (s : ByteArray) (k : Nat) (h : k < s.size) : s.data.toList.take (k + 1) = s.data.toList.take k ++ [s[k]] := by
  rw [List.take_succ_eq_append_getElem (by simpa using h)]; rfl
theorem take_whole (s : ByteArray) : s.data.toList.take s.size = s.data.toList := List.take_of_length_le (by simp)
theorem all_take_succ (p : UInt8 → Bool) (s : ByteArray) (k : Nat) (h : k < s.size) : (s.data.toList.take (k + 1)).all p = ((s.data.toList.take k).all p && p s[k]) := by
  rw [take_snoc s k h]; simp
theorem all_false_of (p : UInt8 → Bool) (s : ByteArray) (k : Nat) (h : k < s.size) (hp : p s[k] = false) : s.data.toList.all p = false := by
  rw [List.all_eq_false]
  exact ⟨s[k], by show s.data[k] ∈ s.data.toList; simp, by simp [hp]⟩
end Go.Proofs.YtdhpfhpegaekpaaDoor
