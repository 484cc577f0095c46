/- Rows that are owned, kept, appended to; blocks that grow. -/
import Derived.Test.YtjmpakpodhbbpaaQRow
import Derived.WalkSmall
import Derived.OwnWalk
import Derived.Maps.AppendAt
namespace Go.Proofs.Ytjmpakpodhbbpaa
open Go.RowKit

theorem cell_two_at (W : World) (n : Nat) (hn : n = W.heap.size) (a b : Value) (t : TypeId) : ∀ j u, [a, b][j]? = some u → (W.alloc (.cells #[a, b] t)).cell? ((⟨n, 0, none⟩ : Addr).add j) = some u := by
  subst hn; exact cell_two_new W a b t
theorem cell_one_at (W : World) (n : Nat) (hn : n = W.heap.size) (a : Value) (t : TypeId) : ∀ j u, [a][j]? = some u → (W.alloc (.cells #[a] t)).cell? ((⟨n, 0, none⟩ : Addr).add j) = some u := by
  subst hn; exact cell_one_new W a t
theorem own_keepB {B : Nat} {w w' : World} {base n e size : Nat} {v : Value} {xs : List Value} (h : w.ownsRow base e size v n xs) (hb : Below B w w') (hlt : ∀ g, v.ownBlock = some g → g < B) : w'.ownsRow base e size v n xs := by
  refine ⟨h.1, h.2.imp_right ?_⟩
  rintro ⟨g, cap, cur, e', h1, hh, r⟩
  have ho : v.ownBlock = some g := by rw [e']; rfl
  refine ⟨g, cap, cur, e', h1, ?_, r⟩
  rw [hb.block g (hlt g ho)]; exact hh
theorem own_keep {w w' : World} {base n e size : Nat} {v : Value} {xs : List Value} (h : w.ownsRow base e size v n xs) (hb : Below w.heap.size w w') : w'.ownsRow base e size v n xs :=
  own_keepB h hb fun g e => (h.lt g e).2
theorem below_append {w x y : World} {v : Value} {n : Nat} {xs : List Value} {base e size : Nat} {o : Obj} (hB : Below w.heap.size w x) (hz : w.heap.size ≤ base) (ho : x.ownsRow base e size v n xs) (hg : (x.alloc o).grownBy y v.ownBlock) : Below w.heap.size w y :=
  (hB.alloc hB.size o).grown hg (by have := hB.size; simp; omega) (fun k hk => by have := (ho.lt k hk).1; omega)
theorem bSet {w w' : World} (h : Below w.heap.size w w') (b o : Nat) (hb : w.heap.size ≤ b) (v : Value) : Below w.heap.size w (w'.setCell ⟨b, o, none⟩ v) := h.setCell hb v
theorem own_ne {v u : Value} {A B : Nat} (h1 : ∀ g, v.ownBlock = some g → g < A) (h2 : ∀ g, u.ownBlock = some g → B ≤ g) (h : A ≤ B) : v.ownBlock = none ∨ v.ownBlock ≠ u.ownBlock := by
  cases hv : v.ownBlock with
  | none => exact .inl rfl
  | some g => exact .inr fun e => by have := h1 g hv; have := h2 g e.symm; omega
theorem row_grown {w w' : World} {b : Nat} {C : Array Value} {T : TypeId} {row : Option Nat} (h : RowIs w b C T) (hg : w.grownBy w' row) (hne : some b ≠ row) : RowIs w' b C T := by
  have hl := h.lt
  unfold RowIs at *; rw [hg.block b hl hne]; exact h
def DJ (v u : Value) : Prop := ∀ g h, v.ownBlock = some g → u.ownBlock = some h → g ≠ h
theorem DJ.of {v u : Value} {B : Nat} (h1 : ∀ g, v.ownBlock = some g → g < B) (h2 : ∀ g, u.ownBlock = some g → B ≤ g) : DJ v u := fun g h e1 e2 e => by
  have := h1 g e1; have := h2 h e2; omega
theorem DJ.ne {v u : Value} (h : DJ v u) : u.ownBlock = none ∨ u.ownBlock ≠ v.ownBlock := by
  cases hu : u.ownBlock with
  | none => exact .inl rfl
  | some g => exact .inr fun e => h g g e.symm hu rfl
theorem DJ.ne' {v u : Value} (h : DJ v u) : v.ownBlock = none ∨ v.ownBlock ≠ u.ownBlock := by
  cases hv : v.ownBlock with
  | none => exact .inl rfl
  | some g => exact .inr fun e => h g g hv e.symm rfl
theorem dj_nil (v : Value) : DJ (.slice none 0 0) v := fun g _ h _ => by simp [Value.ownBlock] at h
/-- What is owned by a slice of strings. -/
theorem own_strs {w : World} {base : Nat} {v : Value} {l : List ByteArray} (h : w.ownsRow base 9 1 v l.length (l.map Value.string)) : ∃ a cap, v = .slice a l.length cap ∧ SlS w a l.length l := by
  rcases h.2 with ⟨rfl, e⟩ | ⟨g, cap, cur, rfl, _, hh, _, _, hsz, htk⟩
  · have : l = [] := List.length_eq_zero_iff.1 e
    subst this
    exact ⟨none, 0, rfl, rfl, .inl rfl⟩
  · have hr : RowIs w g cur 9 := hh
    refine ⟨_, _, rfl, rfl, .inr ⟨g, 0, rfl, hr.lt, fun i hi => ?_⟩⟩
    rw [Nat.zero_add, hr.cell, ← Array.getElem?_toList]
    have : (cur.toList.take (l.length * 1))[i]? = some (.string l[i]) := by rw [htk]; simp [hi]
    rw [List.getElem?_take] at this
    split at this
    · exact this
    · cases this
theorem info_str : (Try.prog.info? 9).map (fun i => (i.zero, i.size, i.bytes)) = some (some (.string ByteArray.empty), 1, 16) := by kernel_rfl
end Go.Proofs.Ytjmpakpodhbbpaa
