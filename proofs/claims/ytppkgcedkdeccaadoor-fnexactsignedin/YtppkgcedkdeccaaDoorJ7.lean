/- QAtI, QAtJ, QAtS, one behind the other. -/
import Derived.Test.YtppkgcedkdeccaaDoorJ6
import Derived.Deep.RegionWith
/- impl.goodBlock (70), impl.goodNum (50). -/
namespace Go.Proofs.YtppkgcedkdeccaaDoor
open Go.RowKit

/-- A block of addresses: first and bits in one number. -/
def blockB (n : Int) : Bool := decide (0 ≤ n) && (decide (n % 64 ≤ 32) && (decide (n / 64 < 4294967296) && ((n / 64) % pw (32 - n % 64).toNat == 0)))

def numB (k n : Int) : Bool := if k = 1 then n == 0 || n == 1 else if k = 6 then blockB n else if k = 7 then decide (-100000000000 ≤ n) && decide (n ≤ 100000000000) else true

end Go.Proofs.YtppkgcedkdeccaaDoor
/- impl.GoodAtom (23). -/
namespace Go.Proofs.YtppkgcedkdeccaaDoor
open Go.RowKit

def gText (s : ByteArray) : Bool := decide (s.size ≤ 200) && textL s
def goodAtom (k n : Int) (t ty : ByteArray) : Bool :=
  if k = 3 then ty.toList.isEmpty && (n == 0) && gText t
  else if k = 4 then (n == 0) && goodName ty && !t.toList.isEmpty && gText t
  else if k = 1 ∨ k = 2 ∨ k = 5 ∨ k = 6 ∨ k = 7 then t.toList.isEmpty && ty.toList.isEmpty && numB k n
  else false

theorem cell_al (w : World) (C : Array Value) (t : TypeId) (j : Nat) : (w.alloc (.cells C t)).cell? ⟨w.heap.size, j, none⟩ = C[j]? := World.cell?_alloc_mark w C t _ j
theorem cell_keep {w w1 : World} {C : Array Value} {t : TypeId} (hb : Below (w.alloc (.cells C t)).heap.size (w.alloc (.cells C t)) w1) (j : Nat) : w1.cell? ⟨w.heap.size, j, none⟩ = C[j]? := by
  rw [hb.cell (by simp)]; exact cell_al w C t j

theorem goodAtom_plain {k : Int} (hk : k = 1 ∨ k = 2 ∨ k = 5 ∨ k = 6 ∨ k = 7) (n : Int) (t ty : ByteArray) : goodAtom k n t ty = (t.toList.isEmpty && ty.toList.isEmpty && numB k n) := by
  unfold goodAtom
  rw [if_neg (by omega), if_neg (by omega), if_pos hk]
theorem goodAtom_3 (n : Int) (t ty : ByteArray) : goodAtom 3 n t ty = (ty.toList.isEmpty && (n == 0) && gText t) := by
  unfold goodAtom; rw [if_pos rfl]
theorem goodAtom_4 (n : Int) (t ty : ByteArray) : goodAtom 4 n t ty = ((n == 0) && goodName ty && !t.toList.isEmpty && gText t) := by
  unfold goodAtom; rw [if_neg (by omega), if_pos rfl]
theorem goodAtom_else {k : Int} (h1 : ¬ k = 1) (h2 : ¬ k = 2) (h3 : ¬ k = 3) (h4 : ¬ k = 4) (h5 : ¬ k = 5) (h6 : ¬ k = 6) (h7 : ¬ k = 7) (n : Int) (t ty : ByteArray) : goodAtom k n t ty = false := by
  unfold goodAtom
  rw [if_neg h3, if_neg h4, if_neg (by omega)]

end Go.Proofs.YtppkgcedkdeccaaDoor
/- spec.GoodAtom (14). -/
namespace Go.Proofs.YtppkgcedkdeccaaDoor
open Go.RowKit

theorem isEmpty_small {t : ByteArray} (h : t.size < 1) : t.toList.isEmpty = true := by
  obtain rfl : t = ByteArray.empty := ByteArray.ext (Array.eq_empty_of_size_eq_zero (by show t.size = 0; omega))
  rw [← decide_eq_emptyBytes]; simp

/-- The numbers of a block as the model looks at them. -/
theorem blockB_yes {n : Int} (h0 : 0 ≤ n) (h1 : n / 64 ≤ 4294967295) (h2 : n % 64 ≤ 32) : blockB n = ((n / 64) % pw (32 - n % 64).toNat == 0) := by
  unfold blockB
  rw [decide_eq_true h0, decide_eq_true h2, decide_eq_true (p := n / 64 < 4294967296) (by omega)]; simp
theorem blockB_no {n : Int} (h : n < 0 ∨ 4294967295 < n / 64 ∨ 32 < n % 64) : blockB n = false := by
  unfold blockB
  rcases h with h | h | h
  · rw [decide_eq_false (p := 0 ≤ n) (by omega)]; simp
  · rw [decide_eq_false (p := n / 64 < 4294967296) (by omega)]; simp
  · rw [decide_eq_false (p := n % 64 ≤ 32) (by omega)]; simp

end Go.Proofs.YtppkgcedkdeccaaDoor
