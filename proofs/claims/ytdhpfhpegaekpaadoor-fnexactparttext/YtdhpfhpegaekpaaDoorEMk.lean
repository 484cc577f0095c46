/- What the laws of DocText and PartText need of the laid tables. -/
import Derived.Test.YtdhpfhpegaekpaaDoorEMh
import Derived.Test.YtdhpfhpegaekpaaDoorRows
import Derived.ProofKit
import Derived.LaidMore
import Derived.OpenShut
import Derived.ChangeVars
import Derived.Stop.Joined
import Derived.Stop.LaidErr
import Derived.Handed
import Derived.Lay
import Derived.Shelf.Vars
namespace Go.Proofs.YtdhpfhpegaekpaaDoor.V
set_option linter.unusedVariables false
set_option maxRecDepth 100000
set_option linter.unusedSimpArgs false
open Go.ChangeShapes Go.WideShapes Go.ChangeAt Go.RowKit

theorem own : ownKnob Tryd.prog.godebug = none := by kernel_rfl
theorem laidOut : laidOutB Tryd.prog = true := by kernel_rfl
def laidE : List (String × DataW Unit) := [("unicode/utf8.acceptRanges", Rows.laid_unicode_utf8_acceptRanges), ("loop.example/g00036/impl.docMarks", Rows.laid_loop_example_g00036_impl_docMarks), ("unicode/utf8.first", Rows.laid_unicode_utf8_first)]
theorem all_met (os : Os) (args : Array Value) : laidMetH Tryd.prog laidE ((World.laidAll Tryd.prog os laidE).forCall (fun _ _ => 0) ⟨#[], args, []⟩).memory := by
  rw [MakeChecks.laidMetH_plain _ _ _ (by kernel_rfl)]; exact laidMet_laidAll _ (by kernel_rfl) (by kernel_rfl)
theorem gKw : Tryd.prog.globalNamed "loop.example/g00036/impl.docMarks" = some 0 := by kernel_rfl
theorem tKw : (Tryd.prog.globals[0]?).map (·.type) = some 86 := by kernel_rfl
theorem reads_kw {H : Type} (enc : TypeId × Value → H) (W : World) (sp : Nat → Bool) : DataW.trod enc Tryd.prog W 0 sp true 4 86 marksA.toList = some (Rows.laid_loop_example_g00036_impl_docMarks, []) := by kernel_rfl
theorem strLit {l : List UInt8} {s : ByteArray} (h : s.data.toList = l) : s = ⟨l.toArray⟩ := by
  obtain ⟨d⟩ := s
  obtain ⟨m⟩ := d
  simp at h
  rw [h]
theorem read_pair {H : Type} {enc : TypeId × Value → H} {W : World} {sp : Nat → Bool} {held : Bool} {n : Nat} {cs : List Value} {x : DataW H × List MemPlace} (h : DataW.trod enc Tryd.prog W 0 sp held n 85 cs = some x) :
    ∃ a b : ByteArray, cs = [.string a, .string b] ∧ x.1 = .agg [.lit (.string a.data.toList), .lit (.string b.data.toList)] := by
  obtain ⟨xs, m, rfl, hx1, hlen, hx, hf⟩ := DataW.trod_struct Tryd.underlying85 h
  have hc : Tryd.prog.cellsOf 85 = 2 := by kernel_rfl
  have ky2 : Tryd.prog.cellsOf 9 = 1 := by kernel_rfl
  obtain ⟨c0, c1, rfl⟩ : ∃ a b, cs = [a, b] := by
    have hl := hlen.trans hc
    match cs, hl with
    | [a, b], _ => exact ⟨a, b, rfl⟩
  obtain ⟨x0, x1, rfl⟩ : ∃ a b, xs = [a, b] := by
    match xs, hx with
    | [a, b], _ => exact ⟨a, b, rfl⟩
  have h0 : DataW.trod enc Tryd.prog W 0 sp held m 9 [c0] = some x0 := by have := hf 0 _ rfl; simpa [ky2] using this
  obtain ⟨y0, e0, f0, _⟩ := DataW.trod_string Tryd.underlying9 h0
  have h1 : DataW.trod enc Tryd.prog W 0 sp held m 9 [c1] = some x1 := by have := hf 1 _ rfl; simpa [ky2] using this
  obtain ⟨y1, e1, f1, _⟩ := DataW.trod_string Tryd.underlying9 h1
  simp at e0 e1
  subst e0 e1
  exact ⟨y0, y1, rfl, by rw [hx1]; simp [f0, f1]⟩
theorem cells_of_met {ms : List (String × DataW Unit)} {W : World} (h : laidMet Tryd.prog (("loop.example/g00036/impl.docMarks", Rows.laid_loop_example_g00036_impl_docMarks) :: ms) W) : W.var? Tryd.prog "loop.example/g00036/impl.docMarks" = some marksA := by
  obtain ⟨ps, ⟨g, t, cs, fuel, p, q, hg, ht, hvar, hd, _, _⟩, _⟩ := h
  obtain rfl := Option.some.inj (gKw.symm.trans hg)
  obtain rfl := Option.some.inj (tKw.symm.trans ht)
  rw [hvar]
  congr 1
  obtain ⟨l⟩ := cs
  obtain ⟨xs, m1, rfl, hx1, hlen, hn4, hel⟩ := DataW.trod_array Tryd.underlying86 hd
  have c3 : Tryd.prog.cellsOf 85 = 2 := by kernel_rfl
  have hl4 : l.length = 8 := by
    have c67 : Tryd.prog.cellsOf 86 = 8 := by kernel_rfl
    simpa [c67] using hlen
  obtain ⟨y0, y1, y2, y3, y4, y5, y6, y7, rfl⟩ : ∃ y0 y1 y2 y3 y4 y5 y6 y7, l = [y0, y1, y2, y3, y4, y5, y6, y7] := by
    match l, hl4 with
    | [a, b, c, d, e, f, g, h], _ => exact ⟨a, b, c, d, e, f, g, h, rfl⟩
  have h0 := hel 0 (by decide)
  have h1 := hel 1 (by decide)
  have h2 := hel 2 (by decide)
  have h3 := hel 3 (by decide)
  simp only [Prod.mk.injEq, DataW.agg.injEq, Rows.laid_loop_example_g00036_impl_docMarks] at hx1
  match xs, hn4, hx1, h0, h1, h2, h3 with
  | [x0, x1, x2, x3], _, hx1, h0, h1, h2, h3 =>
    simp only [List.map_cons, List.map_nil, List.cons.injEq] at hx1
    obtain ⟨a0, b0, e0, f0⟩ := read_pair (show DataW.trod _ Tryd.prog W 0 _ false m1 85 _ = some x0 from h0)
    obtain ⟨a1, b1, e1, f1⟩ := read_pair (show DataW.trod _ Tryd.prog W 0 _ false m1 85 _ = some x1 from h1)
    obtain ⟨a2, b2, e2, f2⟩ := read_pair (show DataW.trod _ Tryd.prog W 0 _ false m1 85 _ = some x2 from h2)
    obtain ⟨a3, b3, e3, f3⟩ := read_pair (show DataW.trod _ Tryd.prog W 0 _ false m1 85 _ = some x3 from h3)
    rw [f0, f1, f2, f3] at hx1
    rw [c3] at e0 e1 e2 e3
    simp at e0 e1 e2 e3
    simp only [DataW.agg.injEq, DataW.lit.injEq, Lit.string.injEq, List.cons.injEq, and_true, true_and] at hx1
    obtain ⟨rfl, rfl⟩ := e0
    obtain ⟨rfl, rfl⟩ := e1
    obtain ⟨rfl, rfl⟩ := e2
    obtain ⟨rfl, rfl⟩ := e3
    obtain ⟨⟨⟨g0, k0⟩, ⟨g1, k1⟩, ⟨g2, k2⟩, g3, k3⟩, _⟩ := hx1
    rw [beq_of g0.symm, beq_of k0.symm, beq_of g1.symm, beq_of k1.symm, beq_of g2.symm, beq_of k2.symm, beq_of g3.symm, beq_of k3.symm]
    rfl
theorem cells_of_laid {W : World} (h : laidMetH Tryd.prog laidE W) : W.var? Tryd.prog "loop.example/g00036/impl.docMarks" = some marksA := by
  rw [MakeChecks.laidMetH_plain _ _ _ (by kernel_rfl)] at h
  exact cells_of_met h.tail
theorem marks_of {W : World} (h : W.var? Tryd.prog "loop.example/g00036/impl.docMarks" = some marksA) : MarksAt W := by
  simp only [World.var?, gKw, Option.bind_some] at h
  split at h
  · rename_i cs t fr hh
    obtain rfl := Option.some.inj h
    exact ⟨_, _, hh⟩
  · cases h
theorem vars_kept {H : Type} (enc : TypeId × Value → H) {W W' : World} {sp : Nat → Bool} (h : W.var? Tryd.prog "loop.example/g00036/impl.docMarks" = some marksA) (hz : MarksAt W) (hb : Below W.heap.size W W') :
    DataW.TrodVars enc Tryd.prog W' sp ["loop.example/g00036/impl.docMarks"] [Rows.laid_loop_example_g00036_impl_docMarks] (MemPlace.row ⟨0, 0, none⟩ marksA.size ++ [] ++ []) := by
  have hz' : 0 < W.heap.size := by
    obtain ⟨t, fr, hh⟩ := hz
    exact (Array.getElem?_eq_some_iff.1 hh).1
  have hv : W'.var? Tryd.prog "loop.example/g00036/impl.docMarks" = some marksA := by
    rw [← h]
    unfold World.var?
    rw [gKw]
    simp only [Option.bind_some]
    rw [hb.block 0 hz']
  exact ⟨0, 86, marksA, 4, [], [], gKw, tKw, hv, reads_kw enc W' sp, rfl, rfl⟩
end Go.Proofs.YtdhpfhpegaekpaaDoor.V
