/- A REGION THAT DRAWS ITS ORDER, whose own operations only read what was there, whose callees may make memory of their own: one walk, over the class of the worlds that keep what W had. -/
import Derived.Test.YtdhpfhpegaekpaaDoorQLeaf
import Derived.Deep.QuietTactic
import Derived.BigQuiet
import Derived.Laws.IdiomStrings
namespace Go.Proofs.YtdhpfhpegaekpaaDoor
open Go.RowKit

structure Kept (W : World) where
  w : World
  h : Below W.heap.size W w

theorem wp_region_kept {P : Program} {id : Nat} {Q : Exit → Act → World → Prop} {a : Act} {W : World} {l : List Oper} (hm : P.follows .mixedOrders = true) (hB : Region.lexB .any l.toArray = true)
    (h : wpQuiet P l.toArray (fun w' => ∃ x : Kept W, w' = x.w) (fun a' => ∀ w', (∃ x : Kept W, w' = x.w) → Q .normal a' w') l a) : (Code.region id l.toArray true).wp P Q a W :=
  wp_region_quiet (C := fun w' => ∃ x : Kept W, w' = x.w) hm hB ⟨⟨{ W with drawn := W.drawn + 1 }, ⟨rfl, rfl, rfl, Nat.le_refl _, fun _ _ => rfl⟩⟩, rfl⟩ (by simpa using h)

theorem kept_call {P : Program} {f : FuncId} {args : Array Value} {W : World} {x : Kept W} {v : Value}
    (h : Calls P f args x.w fun e w' => e = .returned v ∧ Below x.w.heap.size x.w w') : Calls P f args x.w fun e w'' => e = .returned v ∧ ∃ y : Kept W, w'' = y.w :=
  h.mono fun _ w'' ⟨he, hb⟩ => ⟨he, ⟨w'', bTr x.h hb⟩, rfl⟩
theorem kept_same {P : Program} {f : FuncId} {args : Array Value} {W : World} {x : Kept W} {v : Value}
    (h : Calls P f args x.w fun e w' => e = .returned v ∧ x.w = w') : Calls P f args x.w fun e w'' => e = .returned v ∧ ∃ y : Kept W, w'' = y.w :=
  h.mono fun _ _ ⟨he, hb⟩ => ⟨he, x, hb.symm⟩
theorem kept_cell {W : World} {p : Addr} {v : Value} (hp : p.block < W.heap.size) (hc : W.cell? p = some v) (x : Kept W) : x.w.cell? p = some v := by
  rw [x.h.cell hp]; exact hc

theorem cellB {W w' : World} {p : Addr} {v : Value} (hb : Below W.heap.size W w') (hz : p.block < W.heap.size) (hc : W.cell? p = some v) : w'.cell? p = some v := by
  rw [hb.cell hz]; exact hc

end Go.Proofs.YtdhpfhpegaekpaaDoor
