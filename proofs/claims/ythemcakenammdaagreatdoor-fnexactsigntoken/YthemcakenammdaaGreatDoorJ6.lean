/- DIn, DLawKit, one behind the other. -/
import Derived.Test.YthemcakenammdaaGreatDoorJ3
import Derived.Test.YthemcakenammdaaGreatDoorRows
import Derived.Test.YthemcakenammdaaGreatDoorJ5
import Derived.ProofKit
import Derived.LaidMore
import Derived.OpenShut
import Derived.ChangeVars
import Derived.Stop.Joined
/- Bytes that came in. -/
namespace Go.Proofs.YthemcakenammdaaGreatDoor.D
open Go.RowKit

theorem u8_of (n : Int) (h : (Lit.int .u8 n).wf = true) : ((UInt8.ofNat n.toNat).toNat : Int) = n := by
  have hb : 0 ≤ n ∧ n ≤ 255 := by
    simp [Lit.wf, IntKind.min, IntKind.max, IntKind.signed, IntKind.bits] at h
    omega
  simp only [UInt8.toNat_ofNat']
  omega
theorem bytes_in {w : World} {a : Option Addr} {len cap : Nat} {zs : List Int} (h : (a = none ∧ len = 0 ∧ cap = 0 ∧ zs = []) ∨
    ∃ x, a = some x ∧ len ≤ cap ∧ cap ≤ maxLen ∧ zs.length = cap ∧ (∀ i, i < zs.length → w.cell? (x.add i) = some (.int .u8 (zs.getD i 0))) ∧ ∀ n ∈ zs, (Lit.int .u8 n).wf = true) :
    (∃ l : List UInt8, SlB w w.heap.size a len l) ∧ len ≤ cap ∧ cap ≤ maxLen := by
  rcases h with ⟨rfl, rfl, rfl, rfl⟩ | ⟨x, rfl, hl, hm, hz, hc, hwf⟩
  · exact ⟨⟨[], rfl, .inl rfl⟩, Nat.le_refl _, Nat.zero_le _⟩
  refine ⟨?_, hl, hm⟩
  rcases Nat.eq_zero_or_pos len with h0 | h0
  · exact ⟨[], by rw [h0]; rfl, .inl rfl⟩
  have e0 := hc 0 (by omega)
  have hs : x.spot = none ∧ x.block < w.heap.size := by
    rw [show x.add 0 = x from rfl] at e0
    constructor
    · exact World.cell?_spot e0
    · apply Classical.byContradiction
      intro hn
      unfold World.cell? at e0
      rw [Array.getElem?_eq_none (by omega)] at e0
      simp at e0
  obtain ⟨blk, off, spot⟩ := x
  obtain ⟨hs1, hs2⟩ := hs
  simp only at hs1 hs2
  subst hs1
  refine ⟨(zs.take len).map fun n => UInt8.ofNat n.toNat, by simp; omega, .inr ⟨blk, off, rfl, hs2, hs2, fun i hi => ?_⟩⟩
  have hi' : i < zs.length := by simp at hi; omega
  have h1 := hc i hi'
  have e : (⟨blk, off, none⟩ : Addr).add i = ⟨blk, off + i, none⟩ := by
    simp only [Addr.add]
    split
    · next h => subst h; rfl
    · rfl
  rw [e] at h1
  rw [h1]
  have hw := hwf zs[i] (List.getElem_mem hi')
  simp only [List.getElem_map, List.getElem_take, byteV]
  rw [u8_of _ hw, List.getD_eq_getElem?_getD, List.getElem?_eq_getElem hi']
  rfl
end Go.Proofs.YthemcakenammdaaGreatDoor.D
/- What every law of the door seat needs of the laid table. -/
namespace Go.Proofs.YthemcakenammdaaGreatDoor.D
set_option maxRecDepth 20000
open Go.ChangeShapes Go.WideShapes Go.ChangeAt Go.RowKit

theorem own : ownKnob Tryz.prog.godebug = none := by kernel_rfl
theorem laidOut : laidOutB Tryz.prog = true := by kernel_rfl
theorem gMul : Tryz.prog.globalNamed "loop.example/g00036/impl.multipliers" = some 0 := by kernel_rfl
theorem tMul : (Tryz.prog.globals[0]?).map (·.type) = some 103 := by kernel_rfl
def cellsM : Array Value := #[.int .i64 1103515245, .int .i64 69069, .int .i64 1664525, .int .i64 22695477]
theorem reads_mul {H : Type} (enc : TypeId × Value → H) (W : World) (sp : Nat → Bool) : DataW.trod enc Tryz.prog W 0 sp true 3 103 cellsM.toList = some (Rows.laid_loop_example_g00036_impl_multipliers, []) := by kernel_rfl
/-- The door's own heap meets the condition. -/
theorem door_met (os : Os) (args : Array Value) : laidMetH Tryz.prog [("loop.example/g00036/impl.multipliers", Rows.laid_loop_example_g00036_impl_multipliers)] ((World.doorLaid Tryz.prog 400 os).forCall (fun _ _ => 0) ⟨#[], args, []⟩).memory :=
  laidMetH_of_parts3 (fuel := 8) (laidMet_of_run' 8 (by kernel_rfl) (by kernel_rfl)) (by kernel_rfl) (by kernel_rfl)
theorem cells_of_laid {W : World} (h : laidMetH Tryz.prog [("loop.example/g00036/impl.multipliers", Rows.laid_loop_example_g00036_impl_multipliers)] W) : W.var? Tryz.prog "loop.example/g00036/impl.multipliers" = some cellsM := by
  rw [MakeChecks.laidMetH_plain _ _ _ (by kernel_rfl)] at h
  obtain ⟨ps, ⟨g, t, cs, fuel, p, q, hg, ht, hvar, hd, _, _⟩, _⟩ := h
  obtain rfl := Option.some.inj (gMul.symm.trans hg)
  obtain rfl := Option.some.inj (tMul.symm.trans ht)
  rw [hvar]
  congr 1
  obtain ⟨l⟩ := cs
  obtain ⟨xs, m1, rfl, hx1, hlen, hn4, hel⟩ := DataW.trod_array Tryz.underlying103 hd
  have c3 : Tryz.prog.cellsOf 3 = 1 := by kernel_rfl
  have hl4 : l.length = 4 := by
    have c67 : Tryz.prog.cellsOf 103 = 4 := by kernel_rfl
    simpa [c67] using hlen
  obtain ⟨y0, y1, y2, y3, rfl⟩ : ∃ y0 y1 y2 y3, l = [y0, y1, y2, y3] := by
    match l, hl4 with
    | [a, b, c, d], _ => exact ⟨a, b, c, d, rfl⟩
  have h0 := hel 0 (by decide)
  have h1 := hel 1 (by decide)
  have h2 := hel 2 (by decide)
  have h3 := hel 3 (by decide)
  simp only [Prod.mk.injEq, DataW.agg.injEq, Rows.laid_loop_example_g00036_impl_multipliers] at hx1
  match xs, hn4, hx1, h0, h1, h2, h3 with
  | [x0, x1, x2, x3], _, hx1, h0, h1, h2, h3 =>
    simp only [List.map_cons, List.map_nil, List.cons.injEq] at hx1
    obtain ⟨k0, e0, f0, _⟩ := DataW.trod_int Tryz.underlying3 (show DataW.trod _ Tryz.prog W 0 _ false m1 3 _ = some x0 from h0)
    obtain ⟨k1, e1, f1, _⟩ := DataW.trod_int Tryz.underlying3 (show DataW.trod _ Tryz.prog W 0 _ false m1 3 _ = some x1 from h1)
    obtain ⟨k2, e2, f2, _⟩ := DataW.trod_int Tryz.underlying3 (show DataW.trod _ Tryz.prog W 0 _ false m1 3 _ = some x2 from h2)
    obtain ⟨k3, e3, f3, _⟩ := DataW.trod_int Tryz.underlying3 (show DataW.trod _ Tryz.prog W 0 _ false m1 3 _ = some x3 from h3)
    rw [f0, f1, f2, f3] at hx1
    rw [c3] at e0 e1 e2 e3
    simp at hx1 e0 e1 e2 e3
    obtain ⟨⟨rfl, rfl, rfl, rfl⟩, _⟩ := hx1
    subst e0 e1 e2 e3
    rfl
theorem mults_of {W : World} (h : W.var? Tryz.prog "loop.example/g00036/impl.multipliers" = some cellsM) : Mults W := by
  have hc := World.var?_cell gMul h
  have hz : 0 < W.heap.size := by
    apply Classical.byContradiction
    intro hn
    have h0 := hc 0
    unfold World.cell? at h0
    rw [Array.getElem?_eq_none (by show W.heap.size ≤ 0; omega)] at h0
    simp [cellsM] at h0
  refine ⟨hz, fun i hi => ?_⟩
  have hi' : i = 0 ∨ i = 1 ∨ i = 2 ∨ i = 3 := by omega
  rcases hi' with rfl | rfl | rfl | rfl
  · exact hc 0
  · exact hc 1
  · exact hc 2
  · exact hc 3
theorem vars_kept {H : Type} (enc : TypeId × Value → H) {W W' : World} {sp : Nat → Bool} (h : W.var? Tryz.prog "loop.example/g00036/impl.multipliers" = some cellsM) (hz : 0 < W.heap.size) (hb : Below W.heap.size W W') :
    DataW.TrodVars enc Tryz.prog W' sp ["loop.example/g00036/impl.multipliers"] [Rows.laid_loop_example_g00036_impl_multipliers] (MemPlace.row ⟨0, 0, none⟩ cellsM.size ++ [] ++ []) := by
  have hv : W'.var? Tryz.prog "loop.example/g00036/impl.multipliers" = some cellsM := by
    rw [← h]
    unfold World.var?
    rw [gMul]
    simp only [Option.bind_some]
    rw [hb.block 0 hz]
  exact ⟨0, 103, cellsM, 3, [], [], gMul, tMul, hv, reads_mul enc W' sp, rfl, rfl⟩
/-- A slice of integers that came in: nil, or a row of 'cap' cells. -/
def IsRow (k : IntKind) (w : World) (a : Option Addr) (len cap : Nat) (zs : List Int) : Prop :=
  (a = none ∧ len = 0 ∧ cap = 0 ∧ zs = []) ∨
  ∃ x, a = some x ∧ len ≤ cap ∧ cap ≤ maxLen ∧ zs.length = cap ∧ (∀ i, i < zs.length → w.cell? (x.add i) = some (.int k (zs.getD i 0))) ∧ ∀ n ∈ zs, (Lit.int k n).wf = true
end Go.Proofs.YthemcakenammdaaGreatDoor.D
