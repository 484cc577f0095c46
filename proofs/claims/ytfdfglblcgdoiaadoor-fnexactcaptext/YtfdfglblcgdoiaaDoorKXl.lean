/- What TermText's law needs of the laid tables. -/
import Derived.Test.YtfdfglblcgdoiaaDoorRows
import Derived.Test.YtfdfglblcgdoiaaDoorKXa
import Derived.ProofKit
import Derived.LaidMore
import Derived.OpenShut
import Derived.ChangeVars
import Derived.Stop.Joined
import Derived.Stop.LaidErr
namespace Go.Proofs.YtfdfglblcgdoiaaDoor.V
set_option linter.unusedVariables false
set_option maxRecDepth 20000
open Go.ChangeShapes Go.WideShapes Go.ChangeAt Go.RowKit

theorem own : ownKnob Tryd.prog.godebug = none := by kernel_rfl
theorem laidOut : laidOutB Tryd.prog = true := by kernel_rfl
def laidT {H : Type} : List (String × DataW H) := [("math/bits.deBruijn32tab", Rows.laid_math_bits_deBruijn32tab), ("math/bits.deBruijn64tab", Rows.laid_math_bits_deBruijn64tab), ("internal/strconv.uint64pow10", Rows.laid_internal_strconv_uint64pow10), ("loop.example/g00036/impl.opSigns", Rows.laid_loop_example_g00036_impl_opSigns)]
theorem door_met (os : Os) (args : Array Value) : laidMetH Tryd.prog laidT ((World.doorLaid Tryd.prog 400 os).forCall (fun _ _ => 0) ⟨#[], args, []⟩).memory :=
  laidMetH_of_parts3 (fuel := 8) (laidMet_of_run' 8 (by kernel_rfl) (by kernel_rfl)) (by kernel_rfl) (by kernel_rfl)
theorem pow_is : (Rows.laid_internal_strconv_uint64pow10 : DataW Unit) = Lib.tabData .u64 Lib.pow10Tab := by rfl
theorem tPow : (Tryd.prog.globals[2]?).map (·.type) = some 116 := by kernel_rfl
theorem tab_of_laid {W : World} (h : laidMetH Tryd.prog laidT W) : Tab W := by
  rw [MakeChecks.laidMetH_plain _ _ _ (by kernel_rfl)] at h
  have h2 := h.tail.tail
  rw [pow_is] at h2
  exact Lib.tabIs_of_head gPow tPow Tryd.underlying116 Tryd.underlying107 (by kernel_rfl) (by kernel_rfl) h2
theorem gKw : Tryd.prog.globalNamed "loop.example/g00036/impl.opSigns" = some 0 := by kernel_rfl
theorem tKw : (Tryd.prog.globals[0]?).map (·.type) = some 84 := by kernel_rfl
def cellsK : Array Value := #[.string ⟨#[]⟩, .string ⟨#[61, 61]⟩, .string ⟨#[60]⟩, .string ⟨#[60, 61]⟩, .string ⟨#[105, 110]⟩]
theorem reads_kw {H : Type} (enc : TypeId × Value → H) (W : World) (sp : Nat → Bool) : DataW.trod enc Tryd.prog W 0 sp true 3 84 cellsK.toList = some (Rows.laid_loop_example_g00036_impl_opSigns, []) := by kernel_rfl
theorem strLit {l : List UInt8} {s : ByteArray} (h : s.data.toList = l) : s = ⟨l.toArray⟩ := by
  obtain ⟨d⟩ := s
  obtain ⟨m⟩ := d
  simp at h
  rw [h]
theorem strLit0 {a : Array UInt8} {s : ByteArray} (h : s.data = a) : s = ⟨a⟩ := by
  obtain ⟨d⟩ := s
  simp at h
  rw [h]
theorem cells_of_met {W : World} (h : laidMet Tryd.prog [("loop.example/g00036/impl.opSigns", Rows.laid_loop_example_g00036_impl_opSigns)] W) : W.var? Tryd.prog "loop.example/g00036/impl.opSigns" = some cellsK := by
  obtain ⟨ps, ⟨g, t, cs, fuel, p, q, hg, ht, hvar, hd, _, _⟩, _⟩ := h
  obtain rfl := Option.some.inj (gKw.symm.trans hg)
  obtain rfl := Option.some.inj (tKw.symm.trans ht)
  rw [hvar]
  congr 1
  obtain ⟨l⟩ := cs
  obtain ⟨xs, m1, rfl, hx1, hlen, hn4, hel⟩ := DataW.trod_array Tryd.underlying84 hd
  have c3 : Tryd.prog.cellsOf 9 = 1 := by kernel_rfl
  have hl4 : l.length = 5 := by
    have c67 : Tryd.prog.cellsOf 84 = 5 := by kernel_rfl
    simpa [c67] using hlen
  obtain ⟨y0, y1, y2, y3, y4, rfl⟩ : ∃ y0 y1 y2 y3 y4, l = [y0, y1, y2, y3, y4] := by
    match l, hl4 with
    | [a, b, c, d, e], _ => exact ⟨a, b, c, d, e, rfl⟩
  have h0 := hel 0 (by decide)
  have h1 := hel 1 (by decide)
  have h2 := hel 2 (by decide)
  have h3 := hel 3 (by decide)
  have h4 := hel 4 (by decide)
  simp only [Prod.mk.injEq, DataW.agg.injEq, Rows.laid_loop_example_g00036_impl_opSigns] at hx1
  match xs, hn4, hx1, h0, h1, h2, h3, h4 with
  | [x0, x1, x2, x3, x4], _, hx1, h0, h1, h2, h3, h4 =>
    simp only [List.map_cons, List.map_nil, List.cons.injEq] at hx1
    obtain ⟨k0, e0, f0, _⟩ := DataW.trod_string Tryd.underlying9 (show DataW.trod _ Tryd.prog W 0 _ false m1 9 _ = some x0 from h0)
    obtain ⟨k1, e1, f1, _⟩ := DataW.trod_string Tryd.underlying9 (show DataW.trod _ Tryd.prog W 0 _ false m1 9 _ = some x1 from h1)
    obtain ⟨k2, e2, f2, _⟩ := DataW.trod_string Tryd.underlying9 (show DataW.trod _ Tryd.prog W 0 _ false m1 9 _ = some x2 from h2)
    obtain ⟨k3, e3, f3, _⟩ := DataW.trod_string Tryd.underlying9 (show DataW.trod _ Tryd.prog W 0 _ false m1 9 _ = some x3 from h3)
    obtain ⟨k4, e4, f4, _⟩ := DataW.trod_string Tryd.underlying9 (show DataW.trod _ Tryd.prog W 0 _ false m1 9 _ = some x4 from h4)
    rw [f0, f1, f2, f3, f4] at hx1
    rw [c3] at e0 e1 e2 e3 e4
    simp only [List.drop_zero, List.drop_succ_cons, List.take_succ_cons, List.take_zero, List.cons.injEq, and_true, Nat.mul_one] at e0 e1 e2 e3 e4
    simp at hx1 e0 e1 e2 e3 e4
    obtain ⟨⟨g0, g1, g2, g3, g4⟩, _⟩ := hx1
    subst e0 e1 e2 e3 e4
    first | rw [strLit g0] | rw [strLit g0.symm] | rw [strLit0 g0] | rw [strLit0 g0.symm]
    first | rw [strLit g1] | rw [strLit g1.symm] | rw [strLit0 g1] | rw [strLit0 g1.symm]
    first | rw [strLit g2] | rw [strLit g2.symm] | rw [strLit0 g2] | rw [strLit0 g2.symm]
    first | rw [strLit g3] | rw [strLit g3.symm] | rw [strLit0 g3] | rw [strLit0 g3.symm]
    first | rw [strLit g4] | rw [strLit g4.symm] | rw [strLit0 g4] | rw [strLit0 g4.symm]
    rfl
theorem cells_of_laid {W : World} (h : laidMetH Tryd.prog laidT W) : W.var? Tryd.prog "loop.example/g00036/impl.opSigns" = some cellsK := by
  rw [MakeChecks.laidMetH_plain _ _ _ (by kernel_rfl)] at h
  exact cells_of_met h.tail.tail.tail
theorem signs_of {W : World} (h : W.var? Tryd.prog "loop.example/g00036/impl.opSigns" = some cellsK) : Signs W := by
  have hc := World.var?_cell gKw h
  have hz : 0 < W.heap.size := by
    apply Classical.byContradiction
    intro hn
    have h0 := hc 0
    unfold World.cell? at h0
    rw [Array.getElem?_eq_none (by show W.heap.size ≤ 0; omega)] at h0
    simp [cellsK] at h0
  exact ⟨hz, hc 0, hc 1, hc 2, hc 3, hc 4⟩
theorem vars_kept {H : Type} (enc : TypeId × Value → H) {W W' : World} {sp : Nat → Bool} (h : W.var? Tryd.prog "loop.example/g00036/impl.opSigns" = some cellsK) (hz : 0 < W.heap.size) (hb : Below W.heap.size W W') :
    DataW.TrodVars enc Tryd.prog W' sp ["loop.example/g00036/impl.opSigns"] [Rows.laid_loop_example_g00036_impl_opSigns] (MemPlace.row ⟨0, 0, none⟩ cellsK.size ++ [] ++ []) := by
  have hv : W'.var? Tryd.prog "loop.example/g00036/impl.opSigns" = some cellsK := by
    rw [← h]
    unfold World.var?
    rw [gKw]
    simp only [Option.bind_some]
    rw [hb.block 0 hz]
  exact ⟨0, 84, cellsK, 3, [], [], gKw, tKw, hv, reads_kw enc W' sp, rfl, rfl⟩
end Go.Proofs.YtfdfglblcgdoiaaDoor.V
