/- WVal, SBase, one behind the other. -/
import Derived.Test.YteaidfighimoiaaGreatJ13
import Derived.Laws.AppendOwn
import Derived.Laws.OwnMore
import Derived.Lib.SmallJoins
import Derived.OwnWalk
/- WVal, ported from seat 1a. -/
namespace Go.Proofs.YteaidfighimoiaaGreat.V
open Go.RowKit

theorem zeroA_zero : zeroA ⟨0, 0, ⟨#[]⟩, ⟨#[]⟩⟩ := ⟨rfl, rfl, by rw [ByteArray.toList_eq], by rw [ByteArray.toList_eq]⟩

end Go.Proofs.YteaidfighimoiaaGreat.V
/- Rows of atoms, values that are owned. -/
namespace Go.Proofs.YteaidfighimoiaaGreat.V
open Go.RowKit
set_option maxRecDepth 20000
def cellsA (a : AtomT) : List Value := [.int .i64 a.x, .int .i64 a.n, .string a.t, .string a.y]
def atomsV (l : List AtomT) : List Value := l.flatMap cellsA
def zV (k : Int) (v1 v2 : Value) : Array Value := #[.int .i64 k, .int .i64 0, .int .i64 0, .string ⟨#[]⟩, .string ⟨#[]⟩, v1, v2]
theorem cell_four_new (w : World) (L : List Value) (t : TypeId) : ∀ j u, L[j]? = some u → (w.alloc (.cells L.toArray t)).cell? ((⟨w.heap.size, 0, none⟩ : Addr).add j) = some u := by
  intro j u h
  have e : (⟨w.heap.size, 0, none⟩ : Addr).add j = ⟨w.heap.size, j, none⟩ := by simp [Addr.add]; omega
  have := (RowIs.new w L.toArray t).cell j
  rw [e, this]
  simpa using h
theorem own_keepT {w w' : World} {base n e size : Nat} {v : Value} {xs : List Value} (h : w.ownsRow base e size v n xs) (hb : Below w.heap.size w w') : w'.ownsRow base e size v n xs := by
  refine ⟨h.1, h.2.imp_right ?_⟩
  rintro ⟨g, cap, cur, e', h1, hh, r⟩
  have hl : g < w.heap.size := (Array.getElem?_eq_some_iff.1 hh).1
  exact ⟨g, cap, cur, e', h1, by rw [hb.block g hl]; exact hh, r⟩
theorem own_sl {w : World} {base e size n : Nat} {v : Value} {xs : List Value} (h : w.ownsRow base e size v n xs) : ∃ a cap, v = .slice a n cap := by
  rcases h.2 with ⟨rfl, rfl⟩ | ⟨g, cap, cur, rfl, _⟩
  · exact ⟨_, _, rfl⟩
  · exact ⟨_, _, rfl⟩
theorem below_set {B : Nat} {w w' : World} {b o : Nat} {v : Value} (h : Below B w w') (hb : B ≤ b) : Below B w (w'.setCell ⟨b, o, none⟩ v) := h.setCell (by simpa using hb) _
theorem own_base {w : World} {base base' e size n : Nat} {v : Value} {xs : List Value} (h : w.ownsRow base e size v n xs) (hb : base' ≤ base) : w.ownsRow base' e size v n xs := by
  refine ⟨h.1, ?_⟩
  rcases h.2 with h2 | ⟨g, cap, cur, hv, h3, h4⟩
  · exact .inl h2
  · exact .inr ⟨g, cap, cur, hv, Nat.le_trans hb h3, h4⟩
theorem own_set {w : World} {base e size n b o : Nat} {v u : Value} {xs : List Value} (h : w.ownsRow base e size v n xs) (hne : ∀ g, v.ownBlock = some g → g ≠ b) : (w.setCell ⟨b, o, none⟩ u).ownsRow base e size v n xs := by
  refine ⟨h.1, ?_⟩
  rcases h.2 with h2 | ⟨g, cap, cur, hv, h3, h4, h5⟩
  · exact .inl h2
  · exact .inr ⟨g, cap, cur, hv, h3, by rw [heap_setCell_other w ⟨b, o, none⟩ g u (hne g (by rw [hv]; rfl))]; exact h4, h5⟩
theorem own_set7 {w : World} {base base' e size n b : Nat} {v u0 u1 u2 u3 u4 u5 u6 : Value} {xs : List Value} (h : w.ownsRow base e size v n xs) (hb : base' ≤ base) (hne : b < base) :
    (((((((w.setCell ⟨b, 0, none⟩ u0).setCell ⟨b, 1, none⟩ u1).setCell ⟨b, 2, none⟩ u2).setCell ⟨b, 3, none⟩ u3).setCell ⟨b, 4, none⟩ u4).setCell ⟨b, 5, none⟩ u5).setCell ⟨b, 6, none⟩ u6).ownsRow base' e size v n xs := by
  have ne : ∀ g, v.ownBlock = some g → g ≠ b := fun g e => by have := (h.lt g e).1; omega
  exact own_base (own_set (own_set (own_set (own_set (own_set (own_set (own_set h ne) ne) ne) ne) ne) ne) ne) hb
theorem below_set7 {B b : Nat} {w w' : World} {u0 u1 u2 u3 u4 u5 u6 : Value} (h : Below B w w') (hb : B ≤ b) :
    Below B w (((((((w'.setCell ⟨b, 0, none⟩ u0).setCell ⟨b, 1, none⟩ u1).setCell ⟨b, 2, none⟩ u2).setCell ⟨b, 3, none⟩ u3).setCell ⟨b, 4, none⟩ u4).setCell ⟨b, 5, none⟩ u5).setCell ⟨b, 6, none⟩ u6) :=
  below_set (below_set (below_set (below_set (below_set (below_set (below_set h hb) hb) hb) hb) hb) hb) hb
theorem atomsV_snoc (l : List AtomT) (a : AtomT) : atomsV (l ++ [a]) = atomsV l ++ cellsA a := by simp [atomsV]
theorem RowIs.grown {w w' : World} {b : Nat} {C : Array Value} {T : TypeId} {r : Option Nat} (h : RowIs w b C T) (hg : w.grownBy w' r) (hne : some b ≠ r) : RowIs w' b C T := by
  have hl := h.lt
  unfold RowIs at *; rw [hg.block b hl hne]; exact h
theorem own_or {v u : Value} (h : ∀ g, v.ownBlock = some g → u.ownBlock ≠ some g) : v.ownBlock = none ∨ v.ownBlock ≠ u.ownBlock := by
  cases e : v.ownBlock with
  | none => exact .inl rfl
  | some g => exact .inr (fun e2 => h g e e2.symm)
abbrev zA : AtomT := ⟨0, 0, ⟨#[]⟩, ⟨#[]⟩⟩
theorem atomsV_get : ∀ (l : List AtomT) (i j : Nat) (h : i < l.length), j < 4 → (atomsV l)[i * 4 + j]? = (cellsA l[i])[j]?
  | a :: l, 0, j, _, hj => by
    show (cellsA a ++ atomsV l)[0 * 4 + j]? = _
    rw [List.getElem?_append_left (by show 0 * 4 + j < 4; omega), Nat.zero_mul, Nat.zero_add]
    rfl
  | a :: l, i + 1, j, h, hj => by
    show (cellsA a ++ atomsV l)[(i + 1) * 4 + j]? = _
    rw [List.getElem?_append_right (by show 4 ≤ _; omega), show (i + 1) * 4 + j - (cellsA a).length = i * 4 + j by show _ - 4 = _; omega]
    exact atomsV_get l i j (by simpa using h) hj
theorem atomsV_len (l : List AtomT) : (atomsV l).length = l.length * 4 := by
  induction l with
  | nil => rfl
  | cons a l ih =>
    show (cellsA a ++ atomsV l).length = _
    rw [List.length_append, ih]
    show 4 + _ = (l.length + 1) * 4
    omega
theorem zA_ok : AtomT.Ok zA := ⟨by decide, by decide, by unfold maxLen; decide, by unfold maxLen; decide⟩
theorem sla_own {w : World} {base cap len : Nat} {a : Option Addr} {l : List AtomT} (h : w.ownsRow base 31 4 (.slice a len cap) len (atomsV l)) : SlA w a len l := by
  have hl : len = l.length := by have := h.1; rw [atomsV_len] at this; omega
  refine ⟨hl, ?_⟩
  rcases h.2 with ⟨e, hn⟩ | ⟨g, c, cur, hv, hg, hc, _, _, _, htk⟩
  · exact .inl (List.length_eq_zero_iff.1 (by omega))
  · injection hv with hv
    refine .inr ⟨g, 0, hv, ⟨(Array.getElem?_eq_some_iff.1 hc).1, fun i hi => ?_⟩⟩
    have cell : ∀ j, j < 4 → w.cell? ⟨g, 0 + i * 4 + j, none⟩ = (cellsA l[i])[j]? := fun j hj => by
      have h2 := congrArg (fun l => l[i * 4 + j]?) htk
      simp only [List.getElem?_take] at h2
      rw [if_pos (by omega), Array.getElem?_toList, atomsV_get l i j hi hj] at h2
      simp only [World.cell?, hc, Nat.zero_add]
      exact h2
    exact ⟨cell 0 (by omega), cell 1 (by omega), cell 2 (by omega), cell 3 (by omega)⟩
theorem sls_own {w : World} {base cap len : Nat} {a : Option Addr} {l : List ByteArray} (h : w.ownsRow base 9 1 (.slice a len cap) len (l.map Value.string)) : SlS w a len l := by
  have hl : len = l.length := by have := h.1; rw [List.length_map] at this; omega
  refine ⟨hl, ?_⟩
  rcases h.2 with ⟨e, hn⟩ | ⟨g, c, cur, hv, hg, hc, _, _, _, htk⟩
  · exact .inl (List.length_eq_zero_iff.1 (by omega))
  · injection hv with hv
    refine .inr ⟨g, 0, hv, ⟨(Array.getElem?_eq_some_iff.1 hc).1, fun i hi => ?_⟩⟩
    have h2 := congrArg (fun l => l[i]?) htk
    simp only [List.getElem?_take] at h2
    rw [if_pos (by omega), Array.getElem?_toList, List.getElem?_map, List.getElem?_eq_getElem hi] at h2
    simp only [World.cell?, hc, Nat.zero_add]
    exact h2
def VRet (v : ValT) (v1 v2 : Value) : Value := .agg #[.int .i64 v.k, .int .i64 v.a.x, .int .i64 v.a.n, .string v.a.t, .string v.a.y, v1, v2]
structure VOwn (w : World) (base : Nat) (v : ValT) (v1 v2 : Value) : Prop where
  i : w.ownsRow base 31 4 v1 v.items.length (atomsV v.items)
  n : w.ownsRow base 9 1 v2 v.names.length (v.names.map Value.string)
  dj : ∀ g, v1.ownBlock = some g → v2.ownBlock ≠ some g
theorem VOwn.keep {w w' : World} {base : Nat} {v : ValT} {v1 v2 : Value} (h : VOwn w base v v1 v2) (hb : Below w.heap.size w w') : VOwn w' base v v1 v2 := ⟨own_keepT h.i hb, own_keepT h.n hb, h.dj⟩
theorem VOwn.nil (w : World) (base : Nat) (k : Int) (a : AtomT) : VOwn w base ⟨k, a, [], []⟩ (.slice none 0 0) (.slice none 0 0) := ⟨World.ownsRow_nil _ _ _ _, World.ownsRow_nil _ _ _ _, fun g h => by cases h⟩
abbrev zVal : ValT := ⟨0, zA, [], []⟩
theorem zval_own (w : World) (base : Nat) : VOwn w base zVal (.slice none 0 0) (.slice none 0 0) := VOwn.nil w base 0 zA
theorem VOwn.set7 {w : World} {base base' b : Nat} {v : ValT} {v1 v2 u0 u1 u2 u3 u4 u5 u6 : Value} (h : VOwn w base v v1 v2) (hb : base' ≤ base) (hne : b < base) :
    VOwn (((((((w.setCell ⟨b, 0, none⟩ u0).setCell ⟨b, 1, none⟩ u1).setCell ⟨b, 2, none⟩ u2).setCell ⟨b, 3, none⟩ u3).setCell ⟨b, 4, none⟩ u4).setCell ⟨b, 5, none⟩ u5).setCell ⟨b, 6, none⟩ u6) base' v v1 v2 :=
  ⟨own_set7 h.i hb hne, own_set7 h.n hb hne, h.dj⟩
end Go.Proofs.YteaidfighimoiaaGreat.V
