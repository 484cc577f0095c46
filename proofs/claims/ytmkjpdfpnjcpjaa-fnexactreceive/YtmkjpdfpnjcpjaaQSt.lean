/- Rows of stamps: owned ones, laws.eqStampS, markStampS, heldStampS. -/
import Derived.Test.YtmkjpdfpnjcpjaaQChL
import Derived.WalkSmall
namespace Go.Proofs.Ytmkjpdfpnjcpjaa
open Go.RowKit

def stsV (l : List (Int × Int)) : List Value := l.flatMap fun p => [.int .i64 p.1, .int .i64 p.2]
theorem stsV_snoc (l : List (Int × Int)) (p : Int × Int) : stsV (l ++ [p]) = stsV l ++ [.int .i64 p.1, .int .i64 p.2] := by simp [stsV]
theorem stsV_get : ∀ (l : List (Int × Int)) (i : Nat) (h : i < l.length), (stsV l)[i * 2]? = some (.int .i64 l[i].1) ∧ (stsV l)[i * 2 + 1]? = some (.int .i64 l[i].2)
  | [], i, h => absurd h (Nat.not_lt_zero _)
  | p :: l, 0, _ => ⟨rfl, rfl⟩
  | p :: l, i + 1, h => by
    have := stsV_get l i (by simpa using h)
    have e : stsV (p :: l) = .int .i64 p.1 :: .int .i64 p.2 :: stsV l := by simp [stsV]
    rw [e, show (i + 1) * 2 = i * 2 + 1 + 1 by omega]
    simpa using this
structure StRow (w : World) (b off : Nat) (l : List (Int × Int)) : Prop where
  z : b < w.heap.size
  c0 : ∀ i (h : i < l.length), w.cell? ⟨b, off + i * 2, none⟩ = some (.int .i64 l[i].1)
  c1 : ∀ i (h : i < l.length), w.cell? ⟨b, off + i * 2 + 1, none⟩ = some (.int .i64 l[i].2)
theorem StRow.keep {w w1 : World} {b off : Nat} {l : List (Int × Int)} (h : StRow w b off l) (hb : Below w.heap.size w w1) : StRow w1 b off l :=
  ⟨Nat.lt_of_lt_of_le h.z hb.size, fun i hi => cellB hb h.z (h.c0 i hi), fun i hi => cellB hb h.z (h.c1 i hi)⟩
def SlSt (w : World) (a : Option Addr) (len : Nat) (l : List (Int × Int)) : Prop := len = l.length ∧ (l = [] ∨ ∃ b off, a = some ⟨b, off, none⟩ ∧ StRow w b off l)
theorem SlSt.keep {w w1 : World} {a : Option Addr} {len : Nat} {l : List (Int × Int)} (h : SlSt w a len l) (hb : Below w.heap.size w w1) : SlSt w1 a len l :=
  ⟨h.1, by
    rcases h.2 with e | ⟨b, off, e, r⟩
    · exact .inl e
    · exact .inr ⟨b, off, e, r.keep hb⟩⟩
theorem SlSt.at {w : World} {a : Option Addr} {len : Nat} {l : List (Int × Int)} (h : SlSt w a len l) {k : Nat} (hk : k < len) : ∃ b off, a = some ⟨b, off, none⟩ ∧ StRow w b off l := by
  rcases h.2 with e | e
  · rw [h.1, e] at hk; simp at hk
  · exact e
theorem own_sts {w : World} {base : Nat} {v : Value} {l : List (Int × Int)} (h : w.ownsRow base 41 2 v l.length (stsV l)) : ∃ a cap, v = .slice a l.length cap ∧ SlSt w a l.length l := by
  rcases h.2 with ⟨rfl, e⟩ | ⟨g, cap, cur, rfl, _, hh, _, _, hsz, htk⟩
  · have : l = [] := List.length_eq_zero_iff.1 e
    subst this
    exact ⟨none, 0, rfl, rfl, .inl rfl⟩
  · have hr : RowIs w g cur 41 := hh
    have hc : ∀ j u, (stsV l)[j]? = some u → cur[j]? = some u := fun j u hu => by
      rw [← htk, List.getElem?_take] at hu
      rw [← Array.getElem?_toList]
      split at hu
      · exact hu
      · cases hu
    exact ⟨_, _, rfl, rfl, .inr ⟨g, 0, rfl, hr.lt, fun i hi => by rw [Nat.zero_add, hr.cell]; exact hc _ _ (stsV_get l i hi).1, fun i hi => by rw [Nat.zero_add, hr.cell]; exact hc _ _ (stsV_get l i hi).2⟩⟩
theorem info_stamp : (Try.prog.info? 41).map (fun i => (i.zero, i.size, i.bytes)) = some (some (.agg #[.int .i64 0, .int .i64 0]), 2, 16) := by kernel_rfl
theorem cell_two_at (W : World) (n : Nat) (hn : n = W.heap.size) (a b : Value) (t : TypeId) : ∀ j u, [a, b][j]? = some u → (W.alloc (.cells #[a, b] t)).cell? ((⟨n, 0, none⟩ : Addr).add j) = some u := by
  subst hn; exact cell_two_new W a b t
theorem own_keepB {B : Nat} {w w' : World} {base n e size : Nat} {v : Value} {xs : List Value} (h : w.ownsRow base e size v n xs) (hb : Below B w w') (hlt : ∀ g, v.ownBlock = some g → g < B) : w'.ownsRow base e size v n xs := by
  refine ⟨h.1, h.2.imp_right ?_⟩
  rintro ⟨g, cap, cur, e', h1, hh, r⟩
  have ho : v.ownBlock = some g := by rw [e']; rfl
  refine ⟨g, cap, cur, e', h1, ?_, r⟩
  rw [hb.block g (hlt g ho)]; exact hh
theorem own_keep {w w' : World} {base n e size : Nat} {v : Value} {xs : List Value} (h : w.ownsRow base e size v n xs) (hb : Below w.heap.size w w') : w'.ownsRow base e size v n xs :=
  own_keepB h hb fun g e => (h.lt g e).2
theorem below_append {w x y : World} {v : Value} {n : Nat} {xs : List Value} {base e size : Nat} {o : Obj} (hB : Below w.heap.size w x) (hz : w.heap.size ≤ base) (ho : x.ownsRow base e size v n xs) (hg : (x.alloc o).grownBy y v.ownBlock) : Below w.heap.size w y :=
  (hB.alloc hB.size o).grown hg (by have := hB.size; simp; omega) (fun k hk => by have := (ho.lt k hk).1; omega)

set_option maxHeartbeats 400000 in
theorem eqStampS_same (a1 a2 : Option Addr) (len1 c1 len2 c2 : Nat) (l : List (Int × Int)) (w : World) (h1 : SlSt w a1 len1 l) (h2 : SlSt w a2 len2 l) (hm : len1 ≤ maxLen) :
    Calls Try.prog 16 #[.slice a1 len1 c1, .slice a2 len2 c2] w fun e w' => e = .returned (.bool true) ∧ Below w.heap.size w w' := by
  unfold maxLen at hm
  obtain rfl : len1 = len2 := by rw [h1.1, h2.1]
  have H1 := hide h1
  have H2 := hide h2
  clear h1 h2
  go_enter Try.func16, Try.ntmps16
  go_wp2
  go_loopw [5] (fun i w' => ∃ k : Nat, k ≤ len1 ∧ i = .int .i64 k ∧ Below w.heap.size w w') (fun i _ => len1 - (intOf i).toNat)
  case atStart => exact ⟨0, Nat.zero_le _, rfl, Below.refl _ _⟩
  case round =>
    obtain ⟨k, hk, rfl, hbel⟩ := hrel
    by_cases hlt : k < len1
    · have g1 := hide ((unhide H1).keep hbel)
      have g2 := hide ((unhide H2).keep hbel)
      have hk' : k < l.length := by rw [← (unhide H1).1]; exact hlt
      obtain ⟨b, off, rfl, r1⟩ := (unhide g1).at hlt
      obtain ⟨b', off', rfl, r2⟩ := (unhide g2).at hlt
      have p0 := r1.c0 k hk'
      have p1 := r1.c1 k hk'
      have q0 := r2.c0 k hk'
      have q1 := r2.c1 k hk'
      have z1 := r1.z
      have z2 := r2.z
      clear r1 r2 g1 g2
      generalize l[k] = A at p0 p1 q0 q1
      have ne : Nonempty (Kept wr) := ⟨⟨wr, Below.refl _ _⟩⟩
      have e0 := kept_cell z1 p0
      have e1 := kept_cell z1 p1
      have f0 := kept_cell z2 q0
      have f1 := kept_cell z2 q1
      have i0 : (0 : Int) ≤ (k : Int) := by omega
      have i1 : (k : Int) < (len1 : Int) := by omega
      go_wp2_with fail
      refine wp_region_kept (by kernel_rfl) (by kernel_rfl) ?_
      repeat (first
        | go_big_quiet_step ((go_at_call 25; exact kept_call (eqStamp_same _ _ _)))
        | quiet_step ((go_at_call 25; exact kept_call (eqStamp_same _ _ _))))
      refine wpQuiet_nil ?_
      rintro _ ⟨q, rfl⟩
      clear ne e0 e1 f0 f1
      obtain ⟨w3, hb3⟩ := q
      go_wp2_with fail
      exact ⟨⟨k + 1, by omega, by go_num, bTr hbel hb3⟩, by simp [intOf]; omega⟩
    · go_wp2_with fail
      go_ret
      exact ⟨rfl, hbel⟩
end Go.Proofs.Ytmkjpdfpnjcpjaa
