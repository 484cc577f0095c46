/- WKept, ported from seat 1a. -/
import Derived.Test.YtdhpfhpegaekpaaDoorQKept
namespace Go.Proofs.YtdhpfhpegaekpaaDoor.V
open Go.RowKit

/-- An atom lies in block b. -/
structure AtomAt (w : World) (b : Nat) (x n : Int) (t y : ByteArray) : Prop where
  c0 : w.cell? ⟨b, 0, none⟩ = some (.int .i64 x)
  c1 : w.cell? ⟨b, 1, none⟩ = some (.int .i64 n)
  c2 : w.cell? ⟨b, 2, none⟩ = some (.string t)
  c3 : w.cell? ⟨b, 3, none⟩ = some (.string y)
  z : b < w.heap.size

theorem AtomAt.keep {w w1 : World} {b : Nat} {x n : Int} {t y : ByteArray} (h : AtomAt w b x n t y) (hb : Below w.heap.size w w1) : AtomAt w1 b x n t y :=
  ⟨by rw [hb.cell h.z]; exact h.c0, by rw [hb.cell h.z]; exact h.c1, by rw [hb.cell h.z]; exact h.c2, by rw [hb.cell h.z]; exact h.c3, Nat.lt_of_lt_of_le h.z hb.size⟩
theorem AtomAt.kept {W : World} {b : Nat} {x n : Int} {t y : ByteArray} (h : AtomAt W b x n t y) (q : Kept W) : AtomAt q.w b x n t y := h.keep q.h
theorem AtomAt.new (w : World) (x n : Int) (t y : ByteArray) (T : TypeId) : AtomAt (w.alloc (.cells #[.int .i64 x, .int .i64 n, .string t, .string y] T)) w.heap.size x n t y :=
  ⟨World.cell?_alloc_mark w _ _ _ 0, World.cell?_alloc_mark w _ _ _ 1, World.cell?_alloc_mark w _ _ _ 2, World.cell?_alloc_mark w _ _ _ 3, by simp⟩
theorem AtomAt.more {w : World} {b : Nat} {x n : Int} {t y : ByteArray} (h : AtomAt w b x n t y) (o : Obj) : AtomAt (w.alloc o) b x n t y := h.keep (bAl (Below.refl _ _) o)
theorem AtomAt.new1 (w : World) (o : Obj) (x n : Int) (t y : ByteArray) (T : TypeId) : AtomAt ((w.alloc o).alloc (.cells #[.int .i64 x, .int .i64 n, .string t, .string y] T)) (w.heap.size + 1) x n t y := by
  have := AtomAt.new (w.alloc o) x n t y T
  rw [World.size_alloc] at this
  exact this
end Go.Proofs.YtdhpfhpegaekpaaDoor.V
