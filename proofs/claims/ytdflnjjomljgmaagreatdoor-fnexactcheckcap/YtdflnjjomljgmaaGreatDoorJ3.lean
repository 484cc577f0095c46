/- QKept, WKept, one behind the other. -/
import Derived.Test.YtdflnjjomljgmaaGreatDoorJ2
import Derived.Deep.QuietTactic
import Derived.BigQuiet
import Derived.Laws.IdiomStrings
/- A REGION THAT DRAWS ITS ORDER, whose own operations only read what was there, whose callees may make memory of their own: one walk, over the class of the worlds that keep what W had. -/
namespace Go.Proofs.YtdflnjjomljgmaaGreatDoor
open Go.RowKit

structure Kept (W : World) where
  w : World
  h : Below W.heap.size W w

theorem wp_region_kept {P : Program} {id : Nat} {Q : Exit → Act → World → Prop} {a : Act} {W : World} {l : List Oper} (hm : P.follows .mixedOrders = true) (hB : Region.lexB .any l.toArray = true)
    (h : wpQuiet P l.toArray (fun w' => ∃ x : Kept W, w' = x.w) (fun a' => ∀ w', (∃ x : Kept W, w' = x.w) → Q .normal a' w') l a) : (Code.region id l.toArray true).wp P Q a W :=
  wp_region_quiet (C := fun w' => ∃ x : Kept W, w' = x.w) hm hB ⟨⟨{ W with drawn := W.drawn + 1 }, ⟨rfl, rfl, rfl, Nat.le_refl _, fun _ _ => rfl⟩⟩, rfl⟩ (by simpa using h)

theorem kept_call {P : Program} {f : FuncId} {args : Array Value} {W : World} {x : Kept W} {v : Value}
    (h : Calls P f args x.w fun e w' => e = .returned v ∧ Below x.w.heap.size x.w w') : Calls P f args x.w fun e w'' => e = .returned v ∧ ∃ y : Kept W, w'' = y.w :=
  h.mono fun _ w'' ⟨he, hb⟩ => ⟨he, ⟨w'', bTr x.h hb⟩, rfl⟩
theorem kept_same {P : Program} {f : FuncId} {args : Array Value} {W : World} {x : Kept W} {v : Value}
    (h : Calls P f args x.w fun e w' => e = .returned v ∧ x.w = w') : Calls P f args x.w fun e w'' => e = .returned v ∧ ∃ y : Kept W, w'' = y.w :=
  h.mono fun _ _ ⟨he, hb⟩ => ⟨he, x, hb.symm⟩
theorem kept_cell {W : World} {p : Addr} {v : Value} (hp : p.block < W.heap.size) (hc : W.cell? p = some v) (x : Kept W) : x.w.cell? p = some v := by
  rw [x.h.cell hp]; exact hc

theorem cellB {W w' : World} {p : Addr} {v : Value} (hb : Below W.heap.size W w') (hz : p.block < W.heap.size) (hc : W.cell? p = some v) : w'.cell? p = some v := by
  rw [hb.cell hz]; exact hc

end Go.Proofs.YtdflnjjomljgmaaGreatDoor
/- WKept, ported from seat 1a. -/
namespace Go.Proofs.YtdflnjjomljgmaaGreatDoor.V
open Go.RowKit

/-- An atom lies in block b. -/
structure AtomAt (w : World) (b : Nat) (x n : Int) (t y : ByteArray) : Prop where
  c0 : w.cell? ⟨b, 0, none⟩ = some (.int .i64 x)
  c1 : w.cell? ⟨b, 1, none⟩ = some (.int .i64 n)
  c2 : w.cell? ⟨b, 2, none⟩ = some (.string t)
  c3 : w.cell? ⟨b, 3, none⟩ = some (.string y)
  z : b < w.heap.size

theorem AtomAt.keep {w w1 : World} {b : Nat} {x n : Int} {t y : ByteArray} (h : AtomAt w b x n t y) (hb : Below w.heap.size w w1) : AtomAt w1 b x n t y :=
  ⟨by rw [hb.cell h.z]; exact h.c0, by rw [hb.cell h.z]; exact h.c1, by rw [hb.cell h.z]; exact h.c2, by rw [hb.cell h.z]; exact h.c3, Nat.lt_of_lt_of_le h.z hb.size⟩
theorem AtomAt.kept {W : World} {b : Nat} {x n : Int} {t y : ByteArray} (h : AtomAt W b x n t y) (q : Kept W) : AtomAt q.w b x n t y := h.keep q.h
theorem AtomAt.new (w : World) (x n : Int) (t y : ByteArray) (T : TypeId) : AtomAt (w.alloc (.cells #[.int .i64 x, .int .i64 n, .string t, .string y] T)) w.heap.size x n t y :=
  ⟨World.cell?_alloc_mark w _ _ _ 0, World.cell?_alloc_mark w _ _ _ 1, World.cell?_alloc_mark w _ _ _ 2, World.cell?_alloc_mark w _ _ _ 3, by simp⟩
theorem AtomAt.more {w : World} {b : Nat} {x n : Int} {t y : ByteArray} (h : AtomAt w b x n t y) (o : Obj) : AtomAt (w.alloc o) b x n t y := h.keep (bAl (Below.refl _ _) o)
theorem AtomAt.new1 (w : World) (o : Obj) (x n : Int) (t y : ByteArray) (T : TypeId) : AtomAt ((w.alloc o).alloc (.cells #[.int .i64 x, .int .i64 n, .string t, .string y] T)) (w.heap.size + 1) x n t y := by
  have := AtomAt.new (w.alloc o) x n t y T
  rw [World.size_alloc] at this
  exact this
end Go.Proofs.YtdflnjjomljgmaaGreatDoor.V
