/- WCmpS, ported from seat 1a. -/
import Derived.Test.YtmkgehcfdcoliaaGreatWCmpA
import Derived.Test.YtmkgehcfdcoliaaGreatQAtm
import Derived.Deep.RegionHeld3
import Derived.Deep.DeepCutAuto
namespace Go.Proofs.YtmkgehcfdcoliaaGreat.V
open Go.RowKit

set_option maxHeartbeats 1000000 in
theorem sCompare_any (x n : Int) (t y : ByteArray) (x' n' : Int) (t' y' : ByteArray) (w : World) (h9 : n ≤ 9223372036854775807) (ht : t.size ≤ maxLen) (hy : y.size ≤ maxLen)
    (h9' : n' ≤ 9223372036854775807) (ht' : t'.size ≤ maxLen) (hy' : y'.size ≤ maxLen) :
    Calls Tryz.prog 61 #[.agg #[.int .i64 x, .int .i64 n, .string t, .string y], .agg #[.int .i64 x', .int .i64 n', .string t', .string y']] w
      fun e w' => e = .returned (.int .i64 (cmpG x n t y x' n' t' y')) ∧ Below w.heap.size w w' := by
  have hA := hide (fun w => sGoodAtom_any x n t y w h9 ht hy)
  have hB := hide (fun w => sGoodAtom_any x' n' t' y' w h9' ht' hy')
  have hC := hide (fun w => l1Cmp_any x n t y x' n' t' y' w ht hy)
  unfold cmpG
  generalize goodAtom x n t y = ga at hA ⊢
  generalize goodAtom x' n' t' y' = gb at hB ⊢
  generalize cmpA x n t y x' n' t' y' = c at hC ⊢
  clear h9 ht hy h9' ht' hy'
  cases ga
  · rw [if_neg (by simp)]
    go_enter Tryz.func61, Tryz.ntmps61
    go_wp2_with fail
    refine (unhide hA _).mono ?_
    rintro e w1 ⟨rfl, hb1⟩
    go_wp2_with fail
    go_ret
    exact ⟨rfl, bTr (bAl (bAl (Below.refl _ _) _) _) hb1⟩
  cases gb
  · rw [if_neg (by simp)]
    go_enter Tryz.func61, Tryz.ntmps61
    go_wp2_with fail
    refine (unhide hA _).mono ?_
    rintro e w1 ⟨rfl, hb1⟩
    obtain ⟨d0, d1, d2, d3, _⟩ := (AtomAt.new1 w _ _ _ _ _ _).keep hb1
    go_wp2_with fail
    refine (unhide hB _).mono ?_
    rintro e w2 ⟨rfl, hb2⟩
    go_wp2_with fail
    go_ret
    exact ⟨rfl, bTr (bTr (bAl (bAl (Below.refl _ _) _) _) hb1) hb2⟩
  rw [if_pos (by simp)]
  go_enter Tryz.func61, Tryz.ntmps61
  go_wp2_with fail
  refine (unhide hA _).mono ?_
  rintro e w1 ⟨rfl, hb1⟩
  have qa := ((AtomAt.new w _ _ _ _ _).more _).keep hb1
  have qb := (AtomAt.new1 w _ _ _ _ _ _).keep hb1
  obtain ⟨d0, d1, d2, d3, _⟩ := hide qb
  go_wp2_with fail
  refine (unhide hB _).mono ?_
  rintro e w2 ⟨rfl, hb2⟩
  clear d0 d1 d2 d3
  obtain ⟨c0, c1, c2, c3, _⟩ := qa.keep hb2
  obtain ⟨d0, d1, d2, d3, _⟩ := qb.keep hb2
  go_wp2_with fail
  refine (unhide hC _).mono ?_
  rintro e w3 ⟨rfl, hb3⟩
  go_wp2_with fail
  go_ret
  exact ⟨rfl, bTr (bTr (bTr (bAl (bAl (Below.refl _ _) _) _) hb1) hb2) hb3⟩

end Go.Proofs.YtmkgehcfdcoliaaGreat.V
