/- DLawKit, KGk, one behind the other. -/
import Derived.Test.YtdflnjjomljgmaaGreatDoorRows
import Derived.Test.YtdflnjjomljgmaaGreatDoorJ25
import Derived.ProofKit
import Derived.LaidMore
import Derived.OpenShut
import Derived.ChangeVars
import Derived.Stop.Joined
import Derived.Test.YtdflnjjomljgmaaGreatDoorJ21
/- What every law of the door seat needs of the laid table. -/
namespace Go.Proofs.YtdflnjjomljgmaaGreatDoor.D
set_option maxRecDepth 20000
open Go.ChangeShapes Go.WideShapes Go.ChangeAt Go.RowKit

theorem own : ownKnob Tryz.prog.godebug = none := by kernel_rfl
theorem laidOut : laidOutB Tryz.prog = true := by kernel_rfl
theorem gMul : Tryz.prog.globalNamed "loop.example/g00036/impl.multipliers" = some 2 := by kernel_rfl
theorem tMul : (Tryz.prog.globals[2]?).map (·.type) = some 127 := by kernel_rfl
def cellsM : Array Value := #[.int .i64 1103515245, .int .i64 69069, .int .i64 1664525, .int .i64 22695477]
theorem reads_mul {H : Type} (enc : TypeId × Value → H) (W : World) (sp : Nat → Bool) : DataW.trod enc Tryz.prog W 0 sp true 3 127 cellsM.toList = some (Rows.laid_loop_example_g00036_impl_multipliers, []) := by kernel_rfl
/-- The door's own heap meets the condition. -/
theorem door_met (os : Os) (args : Array Value) : laidMetH Tryz.prog [("loop.example/g00036/impl.multipliers", Rows.laid_loop_example_g00036_impl_multipliers)] ((World.doorLaid Tryz.prog 400 os).forCall (fun _ _ => 0) ⟨#[], args, []⟩).memory :=
  laidMetH_of_parts3 (fuel := 8) (laidMet_of_run' 8 (by kernel_rfl) (by kernel_rfl)) (by kernel_rfl) (by kernel_rfl)
theorem cells_of_laid {W : World} (h : laidMetH Tryz.prog [("loop.example/g00036/impl.multipliers", Rows.laid_loop_example_g00036_impl_multipliers)] W) : W.var? Tryz.prog "loop.example/g00036/impl.multipliers" = some cellsM := by
  rw [MakeChecks.laidMetH_plain _ _ _ (by kernel_rfl)] at h
  obtain ⟨ps, ⟨g, t, cs, fuel, p, q, hg, ht, hvar, hd, _, _⟩, _⟩ := h
  obtain rfl := Option.some.inj (gMul.symm.trans hg)
  obtain rfl := Option.some.inj (tMul.symm.trans ht)
  rw [hvar]
  congr 1
  obtain ⟨l⟩ := cs
  obtain ⟨xs, m1, rfl, hx1, hlen, hn4, hel⟩ := DataW.trod_array Tryz.underlying127 hd
  have c3 : Tryz.prog.cellsOf 3 = 1 := by kernel_rfl
  have hl4 : l.length = 4 := by
    have c67 : Tryz.prog.cellsOf 127 = 4 := by kernel_rfl
    simpa [c67] using hlen
  obtain ⟨y0, y1, y2, y3, rfl⟩ : ∃ y0 y1 y2 y3, l = [y0, y1, y2, y3] := by
    match l, hl4 with
    | [a, b, c, d], _ => exact ⟨a, b, c, d, rfl⟩
  have h0 := hel 0 (by decide)
  have h1 := hel 1 (by decide)
  have h2 := hel 2 (by decide)
  have h3 := hel 3 (by decide)
  simp only [Prod.mk.injEq, DataW.agg.injEq, Rows.laid_loop_example_g00036_impl_multipliers] at hx1
  match xs, hn4, hx1, h0, h1, h2, h3 with
  | [x0, x1, x2, x3], _, hx1, h0, h1, h2, h3 =>
    simp only [List.map_cons, List.map_nil, List.cons.injEq] at hx1
    obtain ⟨k0, e0, f0, _⟩ := DataW.trod_int Tryz.underlying3 (show DataW.trod _ Tryz.prog W 0 _ false m1 3 _ = some x0 from h0)
    obtain ⟨k1, e1, f1, _⟩ := DataW.trod_int Tryz.underlying3 (show DataW.trod _ Tryz.prog W 0 _ false m1 3 _ = some x1 from h1)
    obtain ⟨k2, e2, f2, _⟩ := DataW.trod_int Tryz.underlying3 (show DataW.trod _ Tryz.prog W 0 _ false m1 3 _ = some x2 from h2)
    obtain ⟨k3, e3, f3, _⟩ := DataW.trod_int Tryz.underlying3 (show DataW.trod _ Tryz.prog W 0 _ false m1 3 _ = some x3 from h3)
    rw [f0, f1, f2, f3] at hx1
    rw [c3] at e0 e1 e2 e3
    simp at hx1 e0 e1 e2 e3
    obtain ⟨⟨rfl, rfl, rfl, rfl⟩, _⟩ := hx1
    subst e0 e1 e2 e3
    rfl
theorem mults_of {W : World} (h : W.var? Tryz.prog "loop.example/g00036/impl.multipliers" = some cellsM) : Mults W := by
  have hc := World.var?_cell gMul h
  have hz : 2 < W.heap.size := by
    apply Classical.byContradiction
    intro hn
    have h0 := hc 0
    unfold World.cell? at h0
    rw [Array.getElem?_eq_none (by show W.heap.size ≤ 2; omega)] at h0
    simp [cellsM] at h0
  refine ⟨hz, fun i hi => ?_⟩
  have hi' : i = 0 ∨ i = 1 ∨ i = 2 ∨ i = 3 := by omega
  rcases hi' with rfl | rfl | rfl | rfl
  · exact hc 0
  · exact hc 1
  · exact hc 2
  · exact hc 3
theorem vars_kept {H : Type} (enc : TypeId × Value → H) {W W' : World} {sp : Nat → Bool} (h : W.var? Tryz.prog "loop.example/g00036/impl.multipliers" = some cellsM) (hz : 2 < W.heap.size) (hb : Below W.heap.size W W') :
    DataW.TrodVars enc Tryz.prog W' sp ["loop.example/g00036/impl.multipliers"] [Rows.laid_loop_example_g00036_impl_multipliers] (MemPlace.row ⟨2, 0, none⟩ cellsM.size ++ [] ++ []) := by
  have hv : W'.var? Tryz.prog "loop.example/g00036/impl.multipliers" = some cellsM := by
    rw [← h]
    unfold World.var?
    rw [gMul]
    simp only [Option.bind_some]
    rw [hb.block 2 hz]
  exact ⟨2, 127, cellsM, 3, [], [], gMul, tMul, hv, reads_mul enc W' sp, rfl, rfl⟩
/-- A slice of integers that came in: nil, or a row of 'cap' cells. -/
def IsRow (k : IntKind) (w : World) (a : Option Addr) (len cap : Nat) (zs : List Int) : Prop :=
  (a = none ∧ len = 0 ∧ cap = 0 ∧ zs = []) ∨
  ∃ x, a = some x ∧ len ≤ cap ∧ cap ≤ maxLen ∧ zs.length = cap ∧ (∀ i, i < zs.length → w.cell? (x.add i) = some (.int k (zs.getD i 0))) ∧ ∀ n ∈ zs, (Lit.int k n).wf = true
end Go.Proofs.YtdflnjjomljgmaaGreatDoor.D
/- The laid tables of Attenuate's seat: five, two of them read by name. -/
namespace Go.Proofs.YtdflnjjomljgmaaGreatDoor.D
set_option linter.unusedVariables false
set_option maxRecDepth 20000
open Go.ChangeShapes Go.WideShapes Go.ChangeAt Go.RowKit

def laid5 {H : Type} : List (String × DataW H) := [("math/bits.deBruijn32tab", Rows.laid_math_bits_deBruijn32tab), ("math/bits.deBruijn64tab", Rows.laid_math_bits_deBruijn64tab), ("internal/strconv.uint64pow10", Rows.laid_internal_strconv_uint64pow10), ("loop.example/g00036/impl.multipliers", Rows.laid_loop_example_g00036_impl_multipliers), ("loop.example/g00036/impl.opSigns", Rows.laid_loop_example_g00036_impl_opSigns)]
theorem door_met5 (os : Os) (args : Array Value) : laidMetH Tryz.prog laid5 ((World.doorLaid Tryz.prog 400 os).forCall (fun _ _ => 0) ⟨#[], args, []⟩).memory :=
  laidMetH_of_parts3 (fuel := 8) (laidMet_of_run' 8 (by kernel_rfl) (by kernel_rfl)) (by kernel_rfl) (by kernel_rfl)
theorem tab_of5 {W : World} (h : laidMetH Tryz.prog laid5 W) : Tab W := by
  rw [MakeChecks.laidMetH_plain _ _ _ (by kernel_rfl)] at h
  have h2 := h.tail.tail
  rw [V.pow_is] at h2
  exact Lib.tabIs_of_head gPow V.tPow Tryz.underlying177 Tryz.underlying166 (by kernel_rfl) (by kernel_rfl) h2
theorem signs_of5 {W : World} (h : laidMetH Tryz.prog laid5 W) : W.var? Tryz.prog "loop.example/g00036/impl.opSigns" = some V.cellsK := by
  rw [MakeChecks.laidMetH_plain _ _ _ (by kernel_rfl)] at h
  exact V.cells_of_met h.tail.tail.tail.tail
theorem mult_met {W : World} (h : laidMet Tryz.prog [("loop.example/g00036/impl.multipliers", Rows.laid_loop_example_g00036_impl_multipliers), ("loop.example/g00036/impl.opSigns", Rows.laid_loop_example_g00036_impl_opSigns)] W) : W.var? Tryz.prog "loop.example/g00036/impl.multipliers" = some cellsM := by
  obtain ⟨ps, ⟨g, t, cs, fuel, p, q, hg, ht, hvar, hd, _, _⟩, _⟩ := h
  obtain rfl := Option.some.inj (gMul.symm.trans hg)
  obtain rfl := Option.some.inj (tMul.symm.trans ht)
  rw [hvar]
  congr 1
  obtain ⟨l⟩ := cs
  obtain ⟨xs, m1, rfl, hx1, hlen, hn4, hel⟩ := DataW.trod_array Tryz.underlying127 hd
  have c3 : Tryz.prog.cellsOf 3 = 1 := by kernel_rfl
  have hl4 : l.length = 4 := by
    have c67 : Tryz.prog.cellsOf 127 = 4 := by kernel_rfl
    simpa [c67] using hlen
  obtain ⟨y0, y1, y2, y3, rfl⟩ : ∃ y0 y1 y2 y3, l = [y0, y1, y2, y3] := by
    match l, hl4 with
    | [a, b, c, d], _ => exact ⟨a, b, c, d, rfl⟩
  have h0 := hel 0 (by decide)
  have h1 := hel 1 (by decide)
  have h2 := hel 2 (by decide)
  have h3 := hel 3 (by decide)
  simp only [Prod.mk.injEq, DataW.agg.injEq, Rows.laid_loop_example_g00036_impl_multipliers] at hx1
  match xs, hn4, hx1, h0, h1, h2, h3 with
  | [x0, x1, x2, x3], _, hx1, h0, h1, h2, h3 =>
    simp only [List.map_cons, List.map_nil, List.cons.injEq] at hx1
    obtain ⟨k0, e0, f0, _⟩ := DataW.trod_int Tryz.underlying3 (show DataW.trod _ Tryz.prog W 0 _ false m1 3 _ = some x0 from h0)
    obtain ⟨k1, e1, f1, _⟩ := DataW.trod_int Tryz.underlying3 (show DataW.trod _ Tryz.prog W 0 _ false m1 3 _ = some x1 from h1)
    obtain ⟨k2, e2, f2, _⟩ := DataW.trod_int Tryz.underlying3 (show DataW.trod _ Tryz.prog W 0 _ false m1 3 _ = some x2 from h2)
    obtain ⟨k3, e3, f3, _⟩ := DataW.trod_int Tryz.underlying3 (show DataW.trod _ Tryz.prog W 0 _ false m1 3 _ = some x3 from h3)
    rw [f0, f1, f2, f3] at hx1
    rw [c3] at e0 e1 e2 e3
    simp at hx1 e0 e1 e2 e3
    obtain ⟨⟨rfl, rfl, rfl, rfl⟩, _⟩ := hx1
    subst e0 e1 e2 e3
    rfl
theorem mults_of5 {W : World} (h : laidMetH Tryz.prog laid5 W) : W.var? Tryz.prog "loop.example/g00036/impl.multipliers" = some cellsM := by
  rw [MakeChecks.laidMetH_plain _ _ _ (by kernel_rfl)] at h
  exact mult_met h.tail.tail.tail
theorem vars_kept5 {H : Type} (enc : TypeId × Value → H) {W W' : World} {sp : Nat → Bool} (h : W.var? Tryz.prog "loop.example/g00036/impl.opSigns" = some V.cellsK) (hz : 0 < W.heap.size) (k : W.var? Tryz.prog "loop.example/g00036/impl.multipliers" = some cellsM) (kz : 2 < W.heap.size) (hb : Below W.heap.size W W') :
    DataW.TrodVars enc Tryz.prog W' sp ["loop.example/g00036/impl.opSigns", "loop.example/g00036/impl.multipliers"] [Rows.laid_loop_example_g00036_impl_opSigns, Rows.laid_loop_example_g00036_impl_multipliers] (MemPlace.row ⟨0, 0, none⟩ V.cellsK.size ++ [] ++ (MemPlace.row ⟨2, 0, none⟩ cellsM.size ++ [])) := by
  have hv : W'.var? Tryz.prog "loop.example/g00036/impl.opSigns" = some V.cellsK := by
    rw [← h]
    unfold World.var?
    rw [V.gKw]
    simp only [Option.bind_some]
    rw [hb.block 0 hz]
  have kv : W'.var? Tryz.prog "loop.example/g00036/impl.multipliers" = some cellsM := by
    rw [← k]
    unfold World.var?
    rw [gMul]
    simp only [Option.bind_some]
    rw [hb.block 2 kz]
  exact ⟨_, _, V.cellsK, 3, [], _, V.gKw, V.tKw, hv, V.reads_kw enc W' sp, trodVars_mk1 gMul tMul kv (reads_mul enc W' sp), rfl⟩
end Go.Proofs.YtdflnjjomljgmaaGreatDoor.D
