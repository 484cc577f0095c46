/- Rows that are owned. -/
import Derived.Test.YtlkpeolecfemnaaWRow
import Derived.Laws.AppendOwn
import Derived.Laws.OwnMore
import Derived.Lib.SmallJoins
import Derived.OwnWalk
namespace Go.Proofs.Ytlkpeolecfemnaa.V
open Go.RowKit
set_option maxRecDepth 20000
theorem cell_four_new (w : World) (L : List Value) (t : TypeId) : ∀ j u, L[j]? = some u → (w.alloc (.cells L.toArray t)).cell? ((⟨w.heap.size, 0, none⟩ : Addr).add j) = some u := by
  intro j u h
  have e : (⟨w.heap.size, 0, none⟩ : Addr).add j = ⟨w.heap.size, j, none⟩ := by simp [Addr.add]; omega
  have := (RowIs.new w L.toArray t).cell j
  rw [e, this]
  simpa using h
theorem own_keepT {w w' : World} {base n e size : Nat} {v : Value} {xs : List Value} (h : w.ownsRow base e size v n xs) (hb : Below w.heap.size w w') : w'.ownsRow base e size v n xs := by
  refine ⟨h.1, h.2.imp_right ?_⟩
  rintro ⟨g, cap, cur, e', h1, hh, r⟩
  have hl : g < w.heap.size := (Array.getElem?_eq_some_iff.1 hh).1
  exact ⟨g, cap, cur, e', h1, by rw [hb.block g hl]; exact hh, r⟩
theorem own_sl {w : World} {base e size n : Nat} {v : Value} {xs : List Value} (h : w.ownsRow base e size v n xs) : ∃ a cap, v = .slice a n cap := by
  rcases h.2 with ⟨rfl, rfl⟩ | ⟨g, cap, cur, rfl, _⟩
  · exact ⟨_, _, rfl⟩
  · exact ⟨_, _, rfl⟩
theorem below_set {B : Nat} {w w' : World} {b o : Nat} {v : Value} (h : Below B w w') (hb : B ≤ b) : Below B w (w'.setCell ⟨b, o, none⟩ v) := h.setCell (by simpa using hb) _
theorem own_base {w : World} {base base' e size n : Nat} {v : Value} {xs : List Value} (h : w.ownsRow base e size v n xs) (hb : base' ≤ base) : w.ownsRow base' e size v n xs := by
  refine ⟨h.1, ?_⟩
  rcases h.2 with h2 | ⟨g, cap, cur, hv, h3, h4⟩
  · exact .inl h2
  · exact .inr ⟨g, cap, cur, hv, Nat.le_trans hb h3, h4⟩
theorem own_set {w : World} {base e size n b o : Nat} {v u : Value} {xs : List Value} (h : w.ownsRow base e size v n xs) (hne : ∀ g, v.ownBlock = some g → g ≠ b) : (w.setCell ⟨b, o, none⟩ u).ownsRow base e size v n xs := by
  refine ⟨h.1, ?_⟩
  rcases h.2 with h2 | ⟨g, cap, cur, hv, h3, h4, h5⟩
  · exact .inl h2
  · exact .inr ⟨g, cap, cur, hv, h3, by rw [heap_setCell_other w ⟨b, o, none⟩ g u (hne g (by rw [hv]; rfl))]; exact h4, h5⟩
theorem RowIs.grown {w w' : World} {b : Nat} {C : Array Value} {T : TypeId} {r : Option Nat} (h : RowIs w b C T) (hg : w.grownBy w' r) (hne : some b ≠ r) : RowIs w' b C T := by
  have hl := h.lt
  unfold RowIs at *; rw [hg.block b hl hne]; exact h
end Go.Proofs.Ytlkpeolecfemnaa.V
