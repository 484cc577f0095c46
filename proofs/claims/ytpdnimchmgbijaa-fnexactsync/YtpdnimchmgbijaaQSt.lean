/- Rows of stamps: owned ones, laws.eqStampS, markStampS, heldStampS. -/
import Derived.Test.YtpdnimchmgbijaaQChL
import Derived.WalkSmall
namespace Go.Proofs.Ytpdnimchmgbijaa
open Go.RowKit

def stsV (l : List (Int × Int)) : List Value := l.flatMap fun p => [.int .i64 p.1, .int .i64 p.2]
theorem stsV_snoc (l : List (Int × Int)) (p : Int × Int) : stsV (l ++ [p]) = stsV l ++ [.int .i64 p.1, .int .i64 p.2] := by simp [stsV]
theorem stsV_get : ∀ (l : List (Int × Int)) (i : Nat) (h : i < l.length), (stsV l)[i * 2]? = some (.int .i64 l[i].1) ∧ (stsV l)[i * 2 + 1]? = some (.int .i64 l[i].2)
  | [], i, h => absurd h (Nat.not_lt_zero _)
  | p :: l, 0, _ => ⟨rfl, rfl⟩
  | p :: l, i + 1, h => by
    have := stsV_get l i (by simpa using h)
    have e : stsV (p :: l) = .int .i64 p.1 :: .int .i64 p.2 :: stsV l := by simp [stsV]
    rw [e, show (i + 1) * 2 = i * 2 + 1 + 1 by omega]
    simpa using this
structure StRow (w : World) (b off : Nat) (l : List (Int × Int)) : Prop where
  z : b < w.heap.size
  c0 : ∀ i (h : i < l.length), w.cell? ⟨b, off + i * 2, none⟩ = some (.int .i64 l[i].1)
  c1 : ∀ i (h : i < l.length), w.cell? ⟨b, off + i * 2 + 1, none⟩ = some (.int .i64 l[i].2)
theorem StRow.keep {w w1 : World} {b off : Nat} {l : List (Int × Int)} (h : StRow w b off l) (hb : Below w.heap.size w w1) : StRow w1 b off l :=
  ⟨Nat.lt_of_lt_of_le h.z hb.size, fun i hi => cellB hb h.z (h.c0 i hi), fun i hi => cellB hb h.z (h.c1 i hi)⟩
def SlSt (w : World) (a : Option Addr) (len : Nat) (l : List (Int × Int)) : Prop := len = l.length ∧ (l = [] ∨ ∃ b off, a = some ⟨b, off, none⟩ ∧ StRow w b off l)
theorem SlSt.keep {w w1 : World} {a : Option Addr} {len : Nat} {l : List (Int × Int)} (h : SlSt w a len l) (hb : Below w.heap.size w w1) : SlSt w1 a len l :=
  ⟨h.1, by
    rcases h.2 with e | ⟨b, off, e, r⟩
    · exact .inl e
    · exact .inr ⟨b, off, e, r.keep hb⟩⟩
theorem SlSt.at {w : World} {a : Option Addr} {len : Nat} {l : List (Int × Int)} (h : SlSt w a len l) {k : Nat} (hk : k < len) : ∃ b off, a = some ⟨b, off, none⟩ ∧ StRow w b off l := by
  rcases h.2 with e | e
  · rw [h.1, e] at hk; simp at hk
  · exact e
theorem own_sts {w : World} {base : Nat} {v : Value} {l : List (Int × Int)} (h : w.ownsRow base 43 2 v l.length (stsV l)) : ∃ a cap, v = .slice a l.length cap ∧ SlSt w a l.length l := by
  rcases h.2 with ⟨rfl, e⟩ | ⟨g, cap, cur, rfl, _, hh, _, _, hsz, htk⟩
  · have : l = [] := List.length_eq_zero_iff.1 e
    subst this
    exact ⟨none, 0, rfl, rfl, .inl rfl⟩
  · have hr : RowIs w g cur 43 := hh
    have hc : ∀ j u, (stsV l)[j]? = some u → cur[j]? = some u := fun j u hu => by
      rw [← htk, List.getElem?_take] at hu
      rw [← Array.getElem?_toList]
      split at hu
      · exact hu
      · cases hu
    exact ⟨_, _, rfl, rfl, .inr ⟨g, 0, rfl, hr.lt, fun i hi => by rw [Nat.zero_add, hr.cell]; exact hc _ _ (stsV_get l i hi).1, fun i hi => by rw [Nat.zero_add, hr.cell]; exact hc _ _ (stsV_get l i hi).2⟩⟩
theorem info_stamp : (Try.prog.info? 43).map (fun i => (i.zero, i.size, i.bytes)) = some (some (.agg #[.int .i64 0, .int .i64 0]), 2, 16) := by kernel_rfl
theorem cell_two_at (W : World) (n : Nat) (hn : n = W.heap.size) (a b : Value) (t : TypeId) : ∀ j u, [a, b][j]? = some u → (W.alloc (.cells #[a, b] t)).cell? ((⟨n, 0, none⟩ : Addr).add j) = some u := by
  subst hn; exact cell_two_new W a b t
theorem own_keepB {B : Nat} {w w' : World} {base n e size : Nat} {v : Value} {xs : List Value} (h : w.ownsRow base e size v n xs) (hb : Below B w w') (hlt : ∀ g, v.ownBlock = some g → g < B) : w'.ownsRow base e size v n xs := by
  refine ⟨h.1, h.2.imp_right ?_⟩
  rintro ⟨g, cap, cur, e', h1, hh, r⟩
  have ho : v.ownBlock = some g := by rw [e']; rfl
  refine ⟨g, cap, cur, e', h1, ?_, r⟩
  rw [hb.block g (hlt g ho)]; exact hh
theorem own_keep {w w' : World} {base n e size : Nat} {v : Value} {xs : List Value} (h : w.ownsRow base e size v n xs) (hb : Below w.heap.size w w') : w'.ownsRow base e size v n xs :=
  own_keepB h hb fun g e => (h.lt g e).2
theorem below_append {w x y : World} {v : Value} {n : Nat} {xs : List Value} {base e size : Nat} {o : Obj} (hB : Below w.heap.size w x) (hz : w.heap.size ≤ base) (ho : x.ownsRow base e size v n xs) (hg : (x.alloc o).grownBy y v.ownBlock) : Below w.heap.size w y :=
  (hB.alloc hB.size o).grown hg (by have := hB.size; simp; omega) (fun k hk => by have := (ho.lt k hk).1; omega)

end Go.Proofs.Ytpdnimchmgbijaa
