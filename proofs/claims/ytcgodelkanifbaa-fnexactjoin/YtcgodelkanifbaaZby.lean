/- Regions that keep; laws.zBytes. -/
import Derived.Test.YtcgodelkanifbaaSpo
namespace Go.Proofs.Ytcgodelkanifbaa
open Go.RowKit

structure Kept (W : World) where
  w : World
  h : Below W.heap.size W w
theorem wp_region_kept {P : Program} {id : Nat} {Q : Exit → Act → World → Prop} {a : Act} {W : World} {l : List Oper} (hm : P.follows .mixedOrders = true) (hB : Region.lexB .any l.toArray = true)
    (h : wpQuiet P l.toArray (fun w' => ∃ x : Kept W, w' = x.w) (fun a' => ∀ w', (∃ x : Kept W, w' = x.w) → Q .normal a' w') l a) : (Code.region id l.toArray true).wp P Q a W :=
  wp_region_quiet (C := fun w' => ∃ x : Kept W, w' = x.w) hm hB ⟨⟨{ W with drawn := W.drawn + 1 }, ⟨rfl, rfl, rfl, Nat.le_refl _, fun _ _ => rfl⟩⟩, rfl⟩ (by simpa using h)
theorem kept_call {P : Program} {f : FuncId} {args : Array Value} {W : World} {x : Kept W} {v : Value}
    (h : Calls P f args x.w fun e w' => e = .returned v ∧ Below x.w.heap.size x.w w') : Calls P f args x.w fun e w'' => e = .returned v ∧ ∃ y : Kept W, w'' = y.w :=
  h.mono fun _ w'' ⟨he, hb⟩ => ⟨he, ⟨w'', bTr x.h hb⟩, rfl⟩
theorem kept_same {P : Program} {f : FuncId} {args : Array Value} {W : World} {x : Kept W} {v : Value}
    (h : Calls P f args x.w fun e w' => e = .returned v ∧ x.w = w') : Calls P f args x.w fun e w'' => e = .returned v ∧ ∃ y : Kept W, w'' = y.w :=
  h.mono fun _ _ ⟨he, hb⟩ => ⟨he, x, hb.symm⟩
theorem kept_cell {W : World} {p : Addr} {v : Value} (hp : p.block < W.heap.size) (hc : W.cell? p = some v) (x : Kept W) : x.w.cell? p = some v := by
  rw [x.h.cell hp]; exact hc

theorem own_slc {w : World} {base : Nat} {v : Value} {l : List UInt8} (h : w.ownsRow base 5 1 v l.length (l.map byteV)) : ∃ a cap, v = .slice a l.length cap ∧ SlB w w.heap.size a l.length l ∧ l.length ≤ cap ∧ cap ≤ maxLen := by
  obtain ⟨a, cap, e, s⟩ := own_sl h
  refine ⟨a, cap, e, s, ?_⟩
  rcases h.2 with ⟨rfl, e0⟩ | ⟨g, cp, cur, rfl, _, hh, h1, h2, _⟩
  · simp only [Value.slice.injEq] at e
    exact ⟨by omega, by unfold maxLen; omega⟩
  · simp only [Value.slice.injEq] at e
    rw [← e.2.2]
    exact ⟨h1, h2⟩
theorem una_arm (D : List UInt8) (h : D.length ≤ 20000) : UnaRes (ByteArray.mk (arm D).toArray).data.toList D true := .inl ⟨rfl, by simp, h⟩
theorem armD_of {D : List UInt8} (h : D.length ≤ 20000) : armD D = arm D := if_pos h
theorem arm_size (D : List UInt8) (h : D.length ≤ 20000) : (ByteArray.mk (arm D).toArray).size ≤ 1048576 := by
  show (arm D).toArray.size ≤ _
  rw [List.size_toArray, arm_len]
  unfold many
  omega

theorem una_str {s : ByteArray} {D : List UInt8} (h : UnaRes s.data.toList D true) : ByteArray.mk (armD D).toArray = s := by
  rcases h with ⟨_, h, hl⟩ | ⟨h, _⟩
  · rw [armD_of hl, h, Array.toArray_toList]
  · cases h
theorem CodeAt.later {w w' : World} {a : Option Addr} {len : Nat} (h : CodeAt w w.heap.size a len) (hb : Below w.heap.size w w') : CodeAt w' w'.heap.size a len := by
  refine ⟨h.1, h.2.imp_right ?_⟩
  rintro ⟨blk, off, e, q, n, r⟩
  refine ⟨blk, off, e, Nat.lt_of_lt_of_le q hb.size, Nat.lt_of_lt_of_le q hb.size, fun i hi => ?_⟩
  obtain ⟨x, g1, g2, g3⟩ := r i hi
  exact ⟨x, g1, g2, cellC hb (p := ⟨blk, off + i, none⟩) q g3⟩

theorem zBytes_any (v u : Value) (l m : List UInt8) (base base' : Nat) (w : World) (hv : w.ownsRow base 5 1 v l.length (l.map byteV)) (hu : w.ownsRow base' 5 1 u m.length (m.map byteV)) :
    Calls Try.prog 12 #[v, u] w fun e w' => e = .returned (.bool (decide (l = m))) ∧ Below w.heap.size w w' := by
  have HV := hide hv
  have HU := hide hu
  clear hv hu
  go_enter Try.func12, Try.ntmps12
  have c1 := conv_own (unhide HV)
  have c2 := conv_own (unhide HU)
  go_wp2_with fail
  go_ret
  refine ⟨?_, Below.refl _ _⟩
  show Ending.returned (.bool (l == m)) = .returned (.bool (decide (l = m)))
  rw [show (l == m) = decide (l = m) by rw [Bool.eq_iff_iff]; simp]
end Go.Proofs.Ytcgodelkanifbaa
