/- What FitsKind's law needs: both sides in nest.py's words, and the table that is laid. -/
import Derived.Test.YtkfbecelfkbkkaaDoorRows
import Derived.Test.YtkfbecelfkbkkaaDoorZFs
import Derived.Test.YtkfbecelfkbkkaaDoorZVa
import Derived.Test.YtkfbecelfkbkkaaDoorZLd
import Derived.ProofKit
import Derived.LaidMore
import Derived.OpenShut
import Derived.ChangeVars
import Derived.Stop.Joined
namespace Go.Proofs.YtkfbecelfkbkkaaDoor.V
set_option linter.unusedVariables false
open Go.ChangeShapes Go.WideShapes Go.ChangeAt Go.RowKit

theorem sFitsKind_n (e : ValueE) (kind : ByteArray) (w : World) (hn : ValueN e.t) (hm : ValueM w 0 e) (hk : kind.size ≤ maxLen) :
    Calls Tryd.prog 5 #[.agg #[.int .i64 e.t.k, .int .i64 e.t.a.x, .int .i64 e.t.a.n, .string e.t.a.t, .string e.t.a.y, .slice e.h2.a e.h2.len e.h2.cap, .slice e.h3.a e.h3.len e.h3.cap], .string kind] w fun r w' => RetB r (Fits e.t kind) ∧ Below w.heap.size w w' :=
  sFitsKind_any e.t e.h2 e.h3 kind w ⟨hn.o1, hn.o2, hn.o3⟩ hn.l2 hm.m2 hm.m3 hk
theorem iFitsKind_n (e : ValueE) (kind : ByteArray) (w : World) (hn : ValueN e.t) (hm : ValueM w 0 e) (hk : kind.size ≤ maxLen) (hT : Words w) :
    Calls Tryd.prog 7 #[.agg #[.int .i64 e.t.k, .int .i64 e.t.a.x, .int .i64 e.t.a.n, .string e.t.a.t, .string e.t.a.y, .slice e.h2.a e.h2.len e.h2.cap, .slice e.h3.a e.h3.len e.h3.cap], .string kind] w fun r w' => RetB r (Fits e.t kind) ∧ Below w.heap.size w w' :=
  iFitsKind_any e.t e.h2 e.h3 kind w ⟨hn.o1, hn.o2, hn.o3⟩ hn.l2 hm.m2 hm.m3 hk hT
theorem own : ownKnob Tryd.prog.godebug = none := by kernel_rfl
theorem laidOut : laidOutB Tryd.prog = true := by kernel_rfl
theorem gKw : Tryd.prog.globalNamed "loop.example/g00036/impl.kindWords" = some 0 := by kernel_rfl
theorem tKw : (Tryd.prog.globals[0]?).map (·.type) = some 65 := by kernel_rfl
def cellsK : Array Value := #[.string ⟨#[]⟩, .string ⟨#[98, 111, 111, 108]⟩, .string ⟨#[110, 117, 109]⟩, .string ⟨#[116, 101, 120, 116]⟩, .string ⟨#[114, 101, 102]⟩, .string ⟨#[100, 101, 99]⟩, .string ⟨#[97, 100, 100, 114]⟩, .string ⟨#[116, 105, 109, 101]⟩]
theorem reads_kw {H : Type} (enc : TypeId × Value → H) (W : World) (sp : Nat → Bool) : DataW.trod enc Tryd.prog W 0 sp true 3 65 cellsK.toList = some (Rows.laid_loop_example_g00036_impl_kindWords, []) := by kernel_rfl
theorem door_met (os : Os) (args : Array Value) : laidMetH Tryd.prog [("loop.example/g00036/impl.kindWords", Rows.laid_loop_example_g00036_impl_kindWords)] ((World.doorLaid Tryd.prog 400 os).forCall (fun _ _ => 0) ⟨#[], args, []⟩).memory :=
  laidMetH_of_parts3 (fuel := 8) (laidMet_of_run' 8 (by kernel_rfl) (by kernel_rfl)) (by kernel_rfl) (by kernel_rfl)
theorem strLit {l : List UInt8} {s : ByteArray} (h : s.data.toList = l) : s = ⟨l.toArray⟩ := by
  obtain ⟨d⟩ := s
  obtain ⟨m⟩ := d
  simp at h
  rw [h]
theorem strLit0 {a : Array UInt8} {s : ByteArray} (h : s.data = a) : s = ⟨a⟩ := by
  obtain ⟨d⟩ := s
  simp at h
  rw [h]
theorem cells_of_laid {W : World} (h : laidMetH Tryd.prog [("loop.example/g00036/impl.kindWords", Rows.laid_loop_example_g00036_impl_kindWords)] W) : W.var? Tryd.prog "loop.example/g00036/impl.kindWords" = some cellsK := by
  rw [MakeChecks.laidMetH_plain _ _ _ (by kernel_rfl)] at h
  obtain ⟨ps, ⟨g, t, cs, fuel, p, q, hg, ht, hvar, hd, _, _⟩, _⟩ := h
  obtain rfl := Option.some.inj (gKw.symm.trans hg)
  obtain rfl := Option.some.inj (tKw.symm.trans ht)
  rw [hvar]
  congr 1
  obtain ⟨l⟩ := cs
  obtain ⟨xs, m1, rfl, hx1, hlen, hn4, hel⟩ := DataW.trod_array Tryd.underlying65 hd
  have c3 : Tryd.prog.cellsOf 9 = 1 := by kernel_rfl
  have hl4 : l.length = 8 := by
    have c67 : Tryd.prog.cellsOf 65 = 8 := by kernel_rfl
    simpa [c67] using hlen
  obtain ⟨y0, y1, y2, y3, y4, y5, y6, y7, rfl⟩ : ∃ y0 y1 y2 y3 y4 y5 y6 y7, l = [y0, y1, y2, y3, y4, y5, y6, y7] := by
    match l, hl4 with
    | [a, b, c, d, e, f, g, h], _ => exact ⟨a, b, c, d, e, f, g, h, rfl⟩
  have h0 := hel 0 (by decide)
  have h1 := hel 1 (by decide)
  have h2 := hel 2 (by decide)
  have h3 := hel 3 (by decide)
  have h4 := hel 4 (by decide)
  have h5 := hel 5 (by decide)
  have h6 := hel 6 (by decide)
  have h7 := hel 7 (by decide)
  simp only [Prod.mk.injEq, DataW.agg.injEq, Rows.laid_loop_example_g00036_impl_kindWords] at hx1
  match xs, hn4, hx1, h0, h1, h2, h3, h4, h5, h6, h7 with
  | [x0, x1, x2, x3, x4, x5, x6, x7], _, hx1, h0, h1, h2, h3, h4, h5, h6, h7 =>
    simp only [List.map_cons, List.map_nil, List.cons.injEq] at hx1
    obtain ⟨k0, e0, f0, _⟩ := DataW.trod_string Tryd.underlying9 (show DataW.trod _ Tryd.prog W 0 _ false m1 9 _ = some x0 from h0)
    obtain ⟨k1, e1, f1, _⟩ := DataW.trod_string Tryd.underlying9 (show DataW.trod _ Tryd.prog W 0 _ false m1 9 _ = some x1 from h1)
    obtain ⟨k2, e2, f2, _⟩ := DataW.trod_string Tryd.underlying9 (show DataW.trod _ Tryd.prog W 0 _ false m1 9 _ = some x2 from h2)
    obtain ⟨k3, e3, f3, _⟩ := DataW.trod_string Tryd.underlying9 (show DataW.trod _ Tryd.prog W 0 _ false m1 9 _ = some x3 from h3)
    obtain ⟨k4, e4, f4, _⟩ := DataW.trod_string Tryd.underlying9 (show DataW.trod _ Tryd.prog W 0 _ false m1 9 _ = some x4 from h4)
    obtain ⟨k5, e5, f5, _⟩ := DataW.trod_string Tryd.underlying9 (show DataW.trod _ Tryd.prog W 0 _ false m1 9 _ = some x5 from h5)
    obtain ⟨k6, e6, f6, _⟩ := DataW.trod_string Tryd.underlying9 (show DataW.trod _ Tryd.prog W 0 _ false m1 9 _ = some x6 from h6)
    obtain ⟨k7, e7, f7, _⟩ := DataW.trod_string Tryd.underlying9 (show DataW.trod _ Tryd.prog W 0 _ false m1 9 _ = some x7 from h7)
    rw [f0, f1, f2, f3, f4, f5, f6, f7] at hx1
    rw [c3] at e0 e1 e2 e3 e4 e5 e6 e7
    simp only [List.drop_zero, List.drop_succ_cons, List.take_succ_cons, List.take_zero, List.cons.injEq, and_true, Nat.mul_one] at e0 e1 e2 e3 e4 e5 e6 e7
    simp at hx1 e0 e1 e2 e3 e4 e5 e6 e7
    obtain ⟨⟨g0, g1, g2, g3, g4, g5, g6, g7⟩, _⟩ := hx1
    subst e0 e1 e2 e3 e4 e5 e6 e7
    first | rw [strLit g0] | rw [strLit g0.symm] | rw [strLit0 g0] | rw [strLit0 g0.symm]
    first | rw [strLit g1] | rw [strLit g1.symm] | rw [strLit0 g1] | rw [strLit0 g1.symm]
    first | rw [strLit g2] | rw [strLit g2.symm] | rw [strLit0 g2] | rw [strLit0 g2.symm]
    first | rw [strLit g3] | rw [strLit g3.symm] | rw [strLit0 g3] | rw [strLit0 g3.symm]
    first | rw [strLit g4] | rw [strLit g4.symm] | rw [strLit0 g4] | rw [strLit0 g4.symm]
    first | rw [strLit g5] | rw [strLit g5.symm] | rw [strLit0 g5] | rw [strLit0 g5.symm]
    first | rw [strLit g6] | rw [strLit g6.symm] | rw [strLit0 g6] | rw [strLit0 g6.symm]
    first | rw [strLit g7] | rw [strLit g7.symm] | rw [strLit0 g7] | rw [strLit0 g7.symm]
    rfl
theorem words_of {W : World} (h : W.var? Tryd.prog "loop.example/g00036/impl.kindWords" = some cellsK) : Words W := by
  have hc := World.var?_cell gKw h
  have hz : 0 < W.heap.size := by
    apply Classical.byContradiction
    intro hn
    have h0 := hc 0
    unfold World.cell? at h0
    rw [Array.getElem?_eq_none (by show W.heap.size ≤ 0; omega)] at h0
    simp [cellsK] at h0
  exact ⟨hz, hc 0, hc 1, hc 2, hc 3, hc 4, hc 5, hc 6, hc 7⟩
theorem vars_kept {H : Type} (enc : TypeId × Value → H) {W W' : World} {sp : Nat → Bool} (h : W.var? Tryd.prog "loop.example/g00036/impl.kindWords" = some cellsK) (hz : 0 < W.heap.size) (hb : Below W.heap.size W W') :
    DataW.TrodVars enc Tryd.prog W' sp ["loop.example/g00036/impl.kindWords"] [Rows.laid_loop_example_g00036_impl_kindWords] (MemPlace.row ⟨0, 0, none⟩ cellsK.size ++ [] ++ []) := by
  have hv : W'.var? Tryd.prog "loop.example/g00036/impl.kindWords" = some cellsK := by
    rw [← h]
    unfold World.var?
    rw [gKw]
    simp only [Option.bind_some]
    rw [hb.block 0 hz]
  exact ⟨0, 65, cellsK, 3, [], [], gKw, tKw, hv, reads_kw enc W' sp, rfl, rfl⟩
end Go.Proofs.YtkfbecelfkbkkaaDoor.V
