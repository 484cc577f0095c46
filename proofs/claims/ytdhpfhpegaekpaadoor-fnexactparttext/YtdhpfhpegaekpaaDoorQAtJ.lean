/- impl.GoodAtom (23). -/
import Derived.Test.YtdhpfhpegaekpaaDoorQAtI
namespace Go.Proofs.YtdhpfhpegaekpaaDoor
open Go.RowKit

def gText (s : ByteArray) : Bool := decide (s.size ≤ 200) && textL s
def goodAtom (k n : Int) (t ty : ByteArray) : Bool :=
  if k = 3 then ty.toList.isEmpty && (n == 0) && gText t
  else if k = 4 then (n == 0) && goodName ty && !t.toList.isEmpty && gText t
  else if k = 1 ∨ k = 2 ∨ k = 5 ∨ k = 6 ∨ k = 7 then t.toList.isEmpty && ty.toList.isEmpty && numB k n
  else false

theorem cell_al (w : World) (C : Array Value) (t : TypeId) (j : Nat) : (w.alloc (.cells C t)).cell? ⟨w.heap.size, j, none⟩ = C[j]? := World.cell?_alloc_mark w C t _ j
theorem cell_keep {w w1 : World} {C : Array Value} {t : TypeId} (hb : Below (w.alloc (.cells C t)).heap.size (w.alloc (.cells C t)) w1) (j : Nat) : w1.cell? ⟨w.heap.size, j, none⟩ = C[j]? := by
  rw [hb.cell (by simp)]; exact cell_al w C t j

theorem goodAtom_plain {k : Int} (hk : k = 1 ∨ k = 2 ∨ k = 5 ∨ k = 6 ∨ k = 7) (n : Int) (t ty : ByteArray) : goodAtom k n t ty = (t.toList.isEmpty && ty.toList.isEmpty && numB k n) := by
  unfold goodAtom
  rw [if_neg (by omega), if_neg (by omega), if_pos hk]
theorem goodAtom_3 (n : Int) (t ty : ByteArray) : goodAtom 3 n t ty = (ty.toList.isEmpty && (n == 0) && gText t) := by
  unfold goodAtom; rw [if_pos rfl]
theorem goodAtom_4 (n : Int) (t ty : ByteArray) : goodAtom 4 n t ty = ((n == 0) && goodName ty && !t.toList.isEmpty && gText t) := by
  unfold goodAtom; rw [if_neg (by omega), if_pos rfl]
theorem goodAtom_else {k : Int} (h1 : ¬ k = 1) (h2 : ¬ k = 2) (h3 : ¬ k = 3) (h4 : ¬ k = 4) (h5 : ¬ k = 5) (h6 : ¬ k = 6) (h7 : ¬ k = 7) (n : Int) (t ty : ByteArray) : goodAtom k n t ty = false := by
  unfold goodAtom
  rw [if_neg h3, if_neg h4, if_neg (by omega)]

end Go.Proofs.YtdhpfhpegaekpaaDoor
