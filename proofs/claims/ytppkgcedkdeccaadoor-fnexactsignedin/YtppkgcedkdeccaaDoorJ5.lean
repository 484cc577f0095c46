/- DLawKit, QPlain, QLeaf, one behind the other. -/
import Derived.Test.YtppkgcedkdeccaaDoorRows
import Derived.Test.YtppkgcedkdeccaaDoorJ4
import Derived.ProofKit
import Derived.LaidMore
import Derived.OpenShut
import Derived.ChangeVars
import Derived.Stop.Joined
import Derived.WalkKit
import Derived.WalkSpells
import Derived.WalkLawsBesides
/- What every law of the door seat needs of the laid table. -/
namespace Go.Proofs.YtppkgcedkdeccaaDoor.D
set_option maxRecDepth 20000
open Go.ChangeShapes Go.WideShapes Go.ChangeAt Go.RowKit

theorem own : ownKnob Tryd.prog.godebug = none := by kernel_rfl
theorem laidOut : laidOutB Tryd.prog = true := by kernel_rfl
theorem gMul : Tryd.prog.globalNamed "loop.example/g00036/impl.multipliers" = some 0 := by kernel_rfl
theorem tMul : (Tryd.prog.globals[0]?).map (·.type) = some 130 := by kernel_rfl
def cellsM : Array Value := #[.int .i64 1103515245, .int .i64 69069, .int .i64 1664525, .int .i64 22695477]
theorem reads_mul {H : Type} (enc : TypeId × Value → H) (W : World) (sp : Nat → Bool) : DataW.trod enc Tryd.prog W 0 sp true 3 130 cellsM.toList = some (Rows.laid_loop_example_g00036_impl_multipliers, []) := by kernel_rfl
/-- The door's own heap meets the condition. -/
theorem door_met (os : Os) (args : Array Value) : laidMetH Tryd.prog [("loop.example/g00036/impl.multipliers", Rows.laid_loop_example_g00036_impl_multipliers)] ((World.doorLaid Tryd.prog 400 os).forCall (fun _ _ => 0) ⟨#[], args, []⟩).memory :=
  laidMetH_of_parts3 (fuel := 8) (laidMet_of_run' 8 (by kernel_rfl) (by kernel_rfl)) (by kernel_rfl) (by kernel_rfl)
theorem cells_of_laid {W : World} (h : laidMetH Tryd.prog [("loop.example/g00036/impl.multipliers", Rows.laid_loop_example_g00036_impl_multipliers)] W) : W.var? Tryd.prog "loop.example/g00036/impl.multipliers" = some cellsM := by
  rw [MakeChecks.laidMetH_plain _ _ _ (by kernel_rfl)] at h
  obtain ⟨ps, ⟨g, t, cs, fuel, p, q, hg, ht, hvar, hd, _, _⟩, _⟩ := h
  obtain rfl := Option.some.inj (gMul.symm.trans hg)
  obtain rfl := Option.some.inj (tMul.symm.trans ht)
  rw [hvar]
  congr 1
  obtain ⟨l⟩ := cs
  obtain ⟨xs, m1, rfl, hx1, hlen, hn4, hel⟩ := DataW.trod_array Tryd.underlying130 hd
  have c3 : Tryd.prog.cellsOf 3 = 1 := by kernel_rfl
  have hl4 : l.length = 4 := by
    have c67 : Tryd.prog.cellsOf 130 = 4 := by kernel_rfl
    simpa [c67] using hlen
  obtain ⟨y0, y1, y2, y3, rfl⟩ : ∃ y0 y1 y2 y3, l = [y0, y1, y2, y3] := by
    match l, hl4 with
    | [a, b, c, d], _ => exact ⟨a, b, c, d, rfl⟩
  have h0 := hel 0 (by decide)
  have h1 := hel 1 (by decide)
  have h2 := hel 2 (by decide)
  have h3 := hel 3 (by decide)
  simp only [Prod.mk.injEq, DataW.agg.injEq, Rows.laid_loop_example_g00036_impl_multipliers] at hx1
  match xs, hn4, hx1, h0, h1, h2, h3 with
  | [x0, x1, x2, x3], _, hx1, h0, h1, h2, h3 =>
    simp only [List.map_cons, List.map_nil, List.cons.injEq] at hx1
    obtain ⟨k0, e0, f0, _⟩ := DataW.trod_int Tryd.underlying3 (show DataW.trod _ Tryd.prog W 0 _ false m1 3 _ = some x0 from h0)
    obtain ⟨k1, e1, f1, _⟩ := DataW.trod_int Tryd.underlying3 (show DataW.trod _ Tryd.prog W 0 _ false m1 3 _ = some x1 from h1)
    obtain ⟨k2, e2, f2, _⟩ := DataW.trod_int Tryd.underlying3 (show DataW.trod _ Tryd.prog W 0 _ false m1 3 _ = some x2 from h2)
    obtain ⟨k3, e3, f3, _⟩ := DataW.trod_int Tryd.underlying3 (show DataW.trod _ Tryd.prog W 0 _ false m1 3 _ = some x3 from h3)
    rw [f0, f1, f2, f3] at hx1
    rw [c3] at e0 e1 e2 e3
    simp at hx1 e0 e1 e2 e3
    obtain ⟨⟨rfl, rfl, rfl, rfl⟩, _⟩ := hx1
    subst e0 e1 e2 e3
    rfl
theorem mults_of {W : World} (h : W.var? Tryd.prog "loop.example/g00036/impl.multipliers" = some cellsM) : Mults W := by
  have hc := World.var?_cell gMul h
  have hz : 0 < W.heap.size := by
    apply Classical.byContradiction
    intro hn
    have h0 := hc 0
    unfold World.cell? at h0
    rw [Array.getElem?_eq_none (by show W.heap.size ≤ 0; omega)] at h0
    simp [cellsM] at h0
  refine ⟨hz, fun i hi => ?_⟩
  have hi' : i = 0 ∨ i = 1 ∨ i = 2 ∨ i = 3 := by omega
  rcases hi' with rfl | rfl | rfl | rfl
  · exact hc 0
  · exact hc 1
  · exact hc 2
  · exact hc 3
theorem vars_kept {H : Type} (enc : TypeId × Value → H) {W W' : World} {sp : Nat → Bool} (h : W.var? Tryd.prog "loop.example/g00036/impl.multipliers" = some cellsM) (hz : 0 < W.heap.size) (hb : Below W.heap.size W W') :
    DataW.TrodVars enc Tryd.prog W' sp ["loop.example/g00036/impl.multipliers"] [Rows.laid_loop_example_g00036_impl_multipliers] (MemPlace.row ⟨0, 0, none⟩ cellsM.size ++ [] ++ []) := by
  have hv : W'.var? Tryd.prog "loop.example/g00036/impl.multipliers" = some cellsM := by
    rw [← h]
    unfold World.var?
    rw [gMul]
    simp only [Option.bind_some]
    rw [hb.block 0 hz]
  exact ⟨0, 130, cellsM, 3, [], [], gMul, tMul, hv, reads_mul enc W' sp, rfl, rfl⟩
/-- A slice of integers that came in: nil, or a row of 'cap' cells. -/
def IsRow (k : IntKind) (w : World) (a : Option Addr) (len cap : Nat) (zs : List Int) : Prop :=
  (a = none ∧ len = 0 ∧ cap = 0 ∧ zs = []) ∨
  ∃ x, a = some x ∧ len ≤ cap ∧ cap ≤ maxLen ∧ zs.length = cap ∧ (∀ i, i < zs.length → w.cell? (x.add i) = some (.int k (zs.getD i 0))) ∧ ∀ n ∈ zs, (Lit.int k n).wf = true
end Go.Proofs.YtppkgcedkdeccaaDoor.D
/- PLAIN: the bytes of names, texts; no program here. -/
namespace Go.Proofs.YtppkgcedkdeccaaDoor

def digB (n : Int) : Bool := decide (48 ≤ n ∧ n ≤ 57)
def letB (n : Int) : Bool := decide ((97 ≤ n ∧ n ≤ 122) ∨ (65 ≤ n ∧ n ≤ 90))
def namB (n : Int) : Bool := decide (((97 ≤ n ∧ n ≤ 122) ∨ (65 ≤ n ∧ n ≤ 90)) ∨ n = 95)
def priB (n : Int) : Bool := decide (32 ≤ n ∧ n ≤ 126)
def okcB (b : UInt8) : Bool := namB b.toNat || digB b.toNat

/-- A name: 1 to 30 bytes, the first no digit, each a letter, a digit or an underscore. -/
def nameL (l : List UInt8) : Bool := decide (1 ≤ l.length) && decide (l.length ≤ 30) && !digB ((l[0]?.getD 0).toNat : Int) && l.all okcB
def goodName (s : ByteArray) : Bool := nameL s.data.toList

theorem take_snoc (s : ByteArray) (k : Nat) (h : k < s.size) : s.data.toList.take (k + 1) = s.data.toList.take k ++ [s[k]] := by
  rw [List.take_succ_eq_append_getElem (by simpa using h)]; rfl
theorem take_whole (s : ByteArray) : s.data.toList.take s.size = s.data.toList := List.take_of_length_le (by simp)
theorem all_take_succ (p : UInt8 → Bool) (s : ByteArray) (k : Nat) (h : k < s.size) : (s.data.toList.take (k + 1)).all p = ((s.data.toList.take k).all p && p s[k]) := by
  rw [take_snoc s k h]; simp
theorem all_false_of (p : UInt8 → Bool) (s : ByteArray) (k : Nat) (h : k < s.size) (hp : p s[k] = false) : s.data.toList.all p = false := by
  rw [List.all_eq_false]
  exact ⟨s[k], by show s.data[k] ∈ s.data.toList; simp, by simp [hp]⟩
end Go.Proofs.YtppkgcedkdeccaaDoor
/- LEAVES: the functions on one byte. -/
namespace Go.Proofs.YtppkgcedkdeccaaDoor
open Go.RowKit

theorem hide {p : Prop} (h : p) : Hid p := h
theorem unhide {p : Prop} (h : Hid p) : p := h.out

/-- A new block behind what is kept. -/
theorem bAl {w w' : World} (h : Below w.heap.size w w') (o : Obj) : Below w.heap.size w (w'.alloc o) := h.alloc h.size o
theorem bTr {w a b : World} (h : Below w.heap.size w a) (k : Below a.heap.size a b) : Below w.heap.size w b := h.trans (k.mono h.size)

theorem ret_bool {a b : Bool} (h : a = b) : Ending.returned (.bool a) = .returned (.bool b) := by rw [h]

theorem l1Digit_any (n : Int) (w : World) : Calls Tryd.prog 69 #[.int .u8 n] w fun e w' => e = .returned (.bool (digB n)) ∧ w = w' := by
  go_enter Tryd.func69, Tryd.ntmps69
  go_wp2
  all_goals go_ret
  all_goals refine ⟨ret_bool ?_, rfl⟩
  all_goals (rw [Bool.eq_iff_iff]; simp [digB]; try omega)

theorem l1Letter_any (n : Int) (w : World) : Calls Tryd.prog 70 #[.int .u8 n] w fun e w' => e = .returned (.bool (letB n)) ∧ w = w' := by
  go_enter Tryd.func70, Tryd.ntmps70
  go_wp2
  all_goals go_ret
  all_goals refine ⟨ret_bool ?_, rfl⟩
  all_goals (rw [Bool.eq_iff_iff]; simp [letB]; try omega)

theorem isLetter_any (n : Int) (w : World) : Calls Tryd.prog 81 #[.int .u8 n] w fun e w' => e = .returned (.bool (letB n)) ∧ w = w' := by
  go_enter Tryd.func81, Tryd.ntmps81
  go_wp2
  all_goals go_ret
  all_goals refine ⟨ret_bool ?_, rfl⟩
  all_goals (rw [Bool.eq_iff_iff]; simp [letB]; try omega)

theorem isDigit_any (n : Int) (w : World) : Calls Tryd.prog 75 #[.int .u8 n] w fun e w' => e = .returned (.bool (digB n)) ∧ w = w' := by
  go_enter Tryd.func75, Tryd.ntmps75
  go_wp2
  all_goals go_ret
  all_goals refine ⟨ret_bool ?_, rfl⟩
  all_goals (rw [Bool.eq_iff_iff]; simp [digB]; try omega)

theorem startsName_any (n : Int) (w : World) : Calls Tryd.prog 74 #[.int .u8 n] w fun e w' => e = .returned (.bool (namB n)) ∧ w = w' := by
  have hl : namB n = (letB n || n == 95) := by rw [Bool.eq_iff_iff]; simp [namB, letB]
  rw [hl]; clear hl
  cases hb : letB n
  all_goals
    have H : Hid (letB n = _) := hb
    clear hb
    go_enter Tryd.func74, Tryd.ntmps74
    go_wp2_with (go_at_call 81; refine (isLetter_any _ _).mono ?_; rintro e w' ⟨rfl, rfl⟩; rw [H.out])
    go_ret
    refine ⟨ret_bool ?_, rfl⟩
    simp
end Go.Proofs.YtppkgcedkdeccaaDoor
