/- WCmpA, ported from seat 1a. -/
import Derived.Test.YtlnmhjihfolliaaWCmp
import Derived.Test.YtlnmhjihfolliaaQAtm
import Derived.Deep.RegionHeld3
import Derived.Deep.DeepCutAuto
namespace Go.Proofs.Ytlnmhjihfolliaa.V
open Go.RowKit

def cmpG (x n : Int) (t y : ByteArray) (x' n' : Int) (t' y' : ByteArray) : Int :=
  if goodAtom x n t y = true ∧ goodAtom x' n' t' y' = true then cmpA x n t y x' n' t' y' else -2

set_option maxHeartbeats 1000000 in
theorem iCompare_any (x n : Int) (t y : ByteArray) (x' n' : Int) (t' y' : ByteArray) (w : World) (h9 : n ≤ 9223372036854775807) (ht : t.size ≤ maxLen) (hy : y.size ≤ maxLen)
    (h9' : n' ≤ 9223372036854775807) (ht' : t'.size ≤ maxLen) (hy' : y'.size ≤ maxLen) :
    Calls Try.prog 16 #[.agg #[.int .i64 x, .int .i64 n, .string t, .string y], .agg #[.int .i64 x', .int .i64 n', .string t', .string y']] w
      fun e w' => e = .returned (.int .i64 (cmpG x n t y x' n' t' y')) ∧ Below w.heap.size w w' := by
  have hA := hide (fun w => iGoodAtom_any x n t y w h9 ht hy)
  have hB := hide (fun w => iGoodAtom_any x' n' t' y' w h9' ht' hy')
  unfold cmpG
  generalize goodAtom x n t y = ga at hA ⊢
  generalize goodAtom x' n' t' y' = gb at hB ⊢
  clear h9 ht hy h9' ht' hy'
  cases ga
  · rw [if_neg (by simp)]
    go_enter Try.func16, Try.ntmps16
    go_wp2_with fail
    refine (unhide hA _).mono ?_
    rintro e w1 ⟨rfl, hb1⟩
    go_wp2_with fail
    go_ret
    exact ⟨rfl, bTr (bAl (bAl (Below.refl _ _) _) _) hb1⟩
  cases gb
  · rw [if_neg (by simp)]
    go_enter Try.func16, Try.ntmps16
    go_wp2_with fail
    refine (unhide hA _).mono ?_
    rintro e w1 ⟨rfl, hb1⟩
    obtain ⟨d0, d1, d2, d3, _⟩ := (AtomAt.new1 w _ _ _ _ _ _).keep hb1
    go_wp2_with fail
    refine (unhide hB _).mono ?_
    rintro e w2 ⟨rfl, hb2⟩
    go_wp2_with fail
    go_ret
    exact ⟨rfl, bTr (bTr (bAl (bAl (Below.refl _ _) _) _) hb1) hb2⟩
  rw [if_pos (by simp)]
  by_cases heq : x = x' ∧ n = n' ∧ t.toList = t'.toList ∧ y.toList = y'.toList
  · obtain ⟨rfl, rfl, ht, hy⟩ := heq
    rw [ByteArray.toList_eq, ByteArray.toList_eq] at ht hy
    obtain rfl := Go.WideShapes.bytes_inj ht
    obtain rfl := Go.WideShapes.bytes_inj hy
    clear ht hy
    have hz : cmpA x n t y x n t y = 0 := by
      unfold cmpA
      rw [cmpN_self, cmpN_self, cmpT_self, cmpT_self]; rfl
    rw [hz]
    clear hz
    go_enter Try.func16, Try.ntmps16
    go_wp2_with fail
    refine (unhide hA _).mono ?_
    rintro e w1 ⟨rfl, hb1⟩
    have qa := ((AtomAt.new w _ _ _ _ _).more _).keep hb1
    have qb := (AtomAt.new1 w _ _ _ _ _ _).keep hb1
    obtain ⟨d0, d1, d2, d3, _⟩ := hide qb
    go_wp2_with fail
    refine (unhide hB _).mono ?_
    rintro e w2 ⟨rfl, hb2⟩
    clear d0 d1 d2 d3
    obtain ⟨c0, c1, c2, c3, _⟩ := qa.keep hb2
    obtain ⟨d0, d1, d2, d3, _⟩ := qb.keep hb2
    have bw2 := bTr (bTr (bAl (bAl (Below.refl _ _) _) _) hb1) hb2
    clear qa qb hb1 hb2 hA hB
    go_wp2_with fail
    go_ret
    exact ⟨rfl, bw2⟩
  have HE := hide heq
  clear heq
  have h1 := hide (fun w => compareInt_any x x' w)
  have h2 := hide (fun w => compareInt_any n n' w)
  have h3 := hide (fun w => compareStr_any y y' w)
  have h4 := hide (fun w => compareStr_any t t' w)
  unfold cmpA
  generalize cmpN x x' = v0 at h1 ⊢
  generalize cmpN n n' = v1 at h2 ⊢
  generalize cmpT y.data.toList y'.data.toList = v2 at h3 ⊢
  generalize cmpT t.data.toList t'.data.toList = v3 at h4 ⊢
  go_enter Try.func16, Try.ntmps16
  go_wp2_with fail
  refine (unhide hA _).mono ?_
  rintro e w1 ⟨rfl, hb1⟩
  have qa := ((AtomAt.new w _ _ _ _ _).more _).keep hb1
  have qb := (AtomAt.new1 w _ _ _ _ _ _).keep hb1
  obtain ⟨d0, d1, d2, d3, _⟩ := hide qb
  go_wp2_with fail
  refine (unhide hB _).mono ?_
  rintro e w2 ⟨rfl, hb2⟩
  clear d0 d1 d2 d3
  obtain ⟨c0, c1, c2, c3, _⟩ := qa.keep hb2
  obtain ⟨d0, d1, d2, d3, _⟩ := qb.keep hb2
  have bw2 := bTr (bTr (bAl (bAl (Below.refl _ _) _) _) hb1) hb2
  clear qa qb hb1 hb2 hA hB
  go_upto_region 3 with fail
  go_cut [0, 1, 15] (fun s0 s1 s w' => s0 = .agg #[.int .i64 x, .int .i64 n, .string t, .string y] ∧ s1 = .agg #[.int .i64 x', .int .i64 n', .string t', .string y'] ∧ s = .bool false ∧ w' = w2)
  case first =>
    clear h1 h2 h3 h4
    go_wp2_with fail
    · exact absurd ⟨‹_›, ‹_›, ‹_›, ‹_›⟩ (unhide HE)
    all_goals go_meet
    all_goals (clear HE; refine ⟨by simp [*], rfl, rfl, rfl⟩)
  case rest =>
    obtain ⟨rfl, rfl, rfl, rfl⟩ := hcut
    clear HE
    go_wp2_with fail
    have zA : w.heap.size < wc.heap.size := World.block_lt_of_cell? wc _ c1
    have zB : w.heap.size + 1 < wc.heap.size := World.block_lt_of_cell? wc _ d1
    go_region_held3 (fun w' => w'.cell? ⟨w.heap.size, 0, none⟩ = some (.int .i64 x) ∧ w'.cell? ⟨w.heap.size, 1, none⟩ = some (.int .i64 n) ∧ w'.cell? ⟨w.heap.size, 2, none⟩ = some (.string t) ∧ w'.cell? ⟨w.heap.size, 3, none⟩ = some (.string y)
        ∧ w'.cell? ⟨w.heap.size + 1, 0, none⟩ = some (.int .i64 x') ∧ w'.cell? ⟨w.heap.size + 1, 1, none⟩ = some (.int .i64 n') ∧ w'.cell? ⟨w.heap.size + 1, 2, none⟩ = some (.string t') ∧ w'.cell? ⟨w.heap.size + 1, 3, none⟩ = some (.string y'))
      ((refine ⟨cellB (W := wc) ?_ zA c0, cellB (W := wc) ?_ zA c1, cellB (W := wc) ?_ zA c2, cellB (W := wc) ?_ zA c3, cellB (W := wc) ?_ zB d0, cellB (W := wc) ?_ zB d1, cellB (W := wc) ?_ zB d2, cellB (W := wc) ?_ zB d3⟩ <;> (repeat (first | exact Below.refl _ _ | refine Below.drew ?_ | refine bAl ?_ _))))
      (first
        | (go_at_call_of 35 x; refine (unhide h1 _).mono ?_; rintro e w' ⟨rfl, rfl⟩)
        | (go_at_call_of 35 n; refine (unhide h2 _).mono ?_; rintro e w' ⟨rfl, rfl⟩)
        | (go_at_call_of 36 y; refine (unhide h3 _).mono ?_; rintro e w' ⟨rfl, rfl⟩)
        | (go_at_call_of 36 t; refine (unhide h4 _).mono ?_; rintro e w' ⟨rfl, rfl⟩)
        | (go_at_call 34; refine (cmpOr_any wc.heap.size v0 v1 v2 v3 _ ?_ ?_ ?_ ?_).mono ?_; (go_simp); (go_simp); (go_simp); (go_simp); rintro e w' ⟨rfl, rfl⟩))
    go_wp2_with fail
    go_ret
    refine ⟨rfl, bTr bw2 ?_⟩
    (repeat (first | exact Below.refl _ _ | refine Below.drew ?_ | refine bAl ?_ _))
end Go.Proofs.Ytlnmhjihfolliaa.V
