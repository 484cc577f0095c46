/- WAdr, WAdrI, one behind the other. -/
import Derived.Test.YtdflnjjomljgmaaGreatDoorJ8
import Derived.Test.YtdflnjjomljgmaaGreatDoorJ3
import Derived.Deep.RegionWith
import Derived.Deep.RegionHeld3
import Derived.Deep.DeepCutAuto
/- WAdr, ported from seat 1a. -/
namespace Go.Proofs.YtdflnjjomljgmaaGreatDoor.V
open Go.RowKit

def isBlk (k n : Int) (t ty : ByteArray) : Bool := (k == 6) && goodAtom k n t ty
def addrInB (x n : Int) (t y : ByteArray) (x' n' : Int) (t' y' : ByteArray) : Bool :=
  isBlk x n t y && (isBlk x' n' t' y' && (decide (n' / 64 ≤ n / 64) && decide (n / 64 + pw (32 - n % 64).toNat ≤ n' / 64 + pw (32 - n' % 64).toNat)))

theorem isBlk_bounds {k n : Int} {t ty : ByteArray} (h : isBlk k n t ty = true) : k = 6 ∧ 0 ≤ n ∧ n % 64 ≤ 32 ∧ n / 64 < 4294967296 := by
  unfold isBlk at h
  simp only [Bool.and_eq_true, beq_iff_eq] at h
  obtain ⟨rfl, h⟩ := h
  rw [goodAtom_plain (by omega), show numB 6 n = blockB n from rfl] at h
  unfold blockB at h
  simp only [Bool.and_eq_true, decide_eq_true_eq] at h
  omega

theorem isBlock_any (k n : Int) (t ty : ByteArray) (w : World) (h9 : n ≤ 9223372036854775807) (ht : t.size ≤ maxLen) (hty : ty.size ≤ maxLen) :
    Calls Tryz.prog 140 #[.agg #[.int .i64 k, .int .i64 n, .string t, .string ty]] w fun e w' => e = .returned (.bool (isBlk k n t ty)) ∧ Below w.heap.size w w' := by
  unfold isBlk
  cases hk : (k == 6)
  · go_enter Tryz.func140, Tryz.ntmps140
    go_wp2_with fail
    go_ret
    exact ⟨rfl, bAl (Below.refl _ _) _⟩
  · go_enter Tryz.func140, Tryz.ntmps140
    go_wp2_with fail
    refine (iGoodAtom_any _ _ _ _ _ h9 ht hty).mono ?_
    rintro e w1 ⟨rfl, hb⟩
    go_wp2_with fail
    go_ret
    exact ⟨rfl, bTr (bAl (Below.refl _ _) _) hb⟩

set_option maxHeartbeats 1000000 in
theorem sAddrIn_any (x n : Int) (t y : ByteArray) (x' n' : Int) (t' y' : ByteArray) (w : World) (h9 : n ≤ 9223372036854775807) (ht : t.size ≤ maxLen) (hy : y.size ≤ maxLen)
    (h9' : n' ≤ 9223372036854775807) (ht' : t'.size ≤ maxLen) (hy' : y'.size ≤ maxLen) :
    Calls Tryz.prog 47 #[.agg #[.int .i64 x, .int .i64 n, .string t, .string y], .agg #[.int .i64 x', .int .i64 n', .string t', .string y']] w
      fun e w' => e = .returned (.bool (addrInB x n t y x' n' t' y')) ∧ Below w.heap.size w w' := by
  have hA := hide (fun w => sGoodAtom_any x n t y w h9 ht hy)
  have hB := hide (fun w => sGoodAtom_any x' n' t' y' w h9' ht' hy')
  cases ga : goodAtom x n t y
  · have hv : addrInB x n t y x' n' t' y' = false := by unfold addrInB isBlk; rw [ga]; simp
    have HV := hide hv
    have GA := hide ga
    clear hv ga
    go_enter Tryz.func47, Tryz.ntmps47
    go_wp2_with fail
    refine (unhide hA _).mono ?_
    rintro e w1 ⟨rfl, hb1⟩
    rw [unhide GA]
    go_wp2_with fail
    go_ret
    exact ⟨ret_bool (unhide HV).symm, bTr (bAl (bAl (Below.refl _ _) _) _) hb1⟩
  cases gb : goodAtom x' n' t' y'
  · have hv : addrInB x n t y x' n' t' y' = false := by unfold addrInB isBlk; rw [gb]; simp
    have HV := hide hv
    have GA := hide ga
    have GB := hide gb
    clear hv ga gb
    go_enter Tryz.func47, Tryz.ntmps47
    go_wp2_with fail
    refine (unhide hA _).mono ?_
    rintro e w1 ⟨rfl, hb1⟩
    rw [unhide GA]
    obtain ⟨d0, d1, d2, d3, _⟩ := (AtomAt.new1 w _ _ _ _ _ _).keep hb1
    go_wp2_with fail
    refine (unhide hB _).mono ?_
    rintro e w2 ⟨rfl, hb2⟩
    rw [unhide GB]
    go_wp2_with fail
    go_ret
    exact ⟨ret_bool (unhide HV).symm, bTr (bTr (bAl (bAl (Below.refl _ _) _) _) hb1) hb2⟩
  have GA := hide ga
  have GB := hide gb
  clear ga gb
  by_cases hx : x = 6
  · by_cases hx' : x' = 6
    · subst hx hx'
      have h1 := (isBlk_bounds (k := 6) (n := n) (t := t) (ty := y) (by unfold isBlk; rw [unhide GA]; rfl)).2
      have h2 := (isBlk_bounds (k := 6) (n := n') (t := t') (ty := y') (by unfold isBlk; rw [unhide GB]; rfl)).2
      obtain ⟨a1, a2, a3⟩ := h1
      obtain ⟨b1, b2, b3⟩ := h2
      have hv : addrInB 6 n t y 6 n' t' y' = (decide (n' / 64 ≤ n / 64) && decide (n / 64 + pw (32 - n % 64).toNat ≤ n' / 64 + pw (32 - n' % 64).toNat)) := by
        unfold addrInB isBlk; rw [unhide GA, unhide GB]; simp
      have HV := hide hv
      clear hv
      have l1 := pw_le (k := (32 - n % 64).toNat) (by omega)
      have l2 := pw_le (k := (32 - n' % 64).toNat) (by omega)
      have p1 := pw_pos (32 - n % 64).toNat
      have p2 := pw_pos (32 - n' % 64).toNat
      have hC := hide (fun w => l1Block_any 6 n t y w a1 h9 a2)
      have hD := hide (fun w => l1Block_any 6 n' t' y' w b1 h9' b2)
      go_enter Tryz.func47, Tryz.ntmps47
      go_wp2_with fail
      refine (unhide hA _).mono ?_
      rintro e w1 ⟨rfl, hb1⟩
      rw [unhide GA]
      have qa := ((AtomAt.new w _ _ _ _ _).more _).keep hb1
      have qb := (AtomAt.new1 w _ _ _ _ _ _).keep hb1
      obtain ⟨d0, d1, d2, d3, _⟩ := hide qb
      go_wp2_with fail
      refine (unhide hB _).mono ?_
      rintro e w2 ⟨rfl, hb2⟩
      rw [unhide GB]
      clear d0 d1 d2 d3
      replace qa := qa.keep hb2
      replace qb := qb.keep hb2
      obtain ⟨c0, c1, c2, c3, _⟩ := hide qa
      obtain ⟨d0, _, _, _, _⟩ := hide qb
      go_wp2_with fail
      refine (unhide hC _).mono ?_
      rintro e w3 ⟨rfl, hb3⟩
      clear c0 c1 c2 c3 d0
      obtain ⟨d0, d1, d2, d3, _⟩ := qb.keep hb3
      go_wp2_with fail
      refine (unhide hD _).mono ?_
      rintro e w4 ⟨rfl, hb4⟩
      by_cases hle : n' / 64 ≤ n / 64
      · go_wp2_with fail
        go_ret
        exact ⟨ret_bool (by rw [unhide HV]; simp [hle]), bTr (bTr (bTr (bTr (bAl (bAl (Below.refl _ _) _) _) hb1) hb2) hb3) hb4⟩
      · have dle : decide (n' / 64 ≤ n / 64) = false := by simpa using hle
        go_wp2_with fail
        go_ret
        exact ⟨ret_bool (by rw [unhide HV, dle]; rfl), bTr (bTr (bTr (bTr (bAl (bAl (Below.refl _ _) _) _) hb1) hb2) hb3) hb4⟩
    · subst hx
      have tx : (x' == 6) = false := by simpa using hx'
      have ux : (x' != 6) = true := by simpa using hx'
      clear hx'
      have hv : addrInB 6 n t y x' n' t' y' = false := by unfold addrInB isBlk; rw [tx]; simp
      have HV := hide hv
      clear hv
      go_enter Tryz.func47, Tryz.ntmps47
      go_wp2_with fail
      refine (unhide hA _).mono ?_
      rintro e w1 ⟨rfl, hb1⟩
      rw [unhide GA]
      have qa := ((AtomAt.new w _ _ _ _ _).more _).keep hb1
      have qb := (AtomAt.new1 w _ _ _ _ _ _).keep hb1
      obtain ⟨d0, d1, d2, d3, _⟩ := hide qb
      go_wp2_with fail
      refine (unhide hB _).mono ?_
      rintro e w2 ⟨rfl, hb2⟩
      rw [unhide GB]
      clear d0 d1 d2 d3
      obtain ⟨c0, _, _, _, _⟩ := qa.keep hb2
      obtain ⟨d0, _, _, _, _⟩ := qb.keep hb2
      go_wp2_with fail
      go_ret
      exact ⟨ret_bool (unhide HV).symm, bTr (bTr (bAl (bAl (Below.refl _ _) _) _) hb1) hb2⟩
  · have tx : (x == 6) = false := by simpa using hx
    have ux : (x != 6) = true := by simpa using hx
    clear hx
    have hv : addrInB x n t y x' n' t' y' = false := by unfold addrInB isBlk; rw [tx]; simp
    have HV := hide hv
    clear hv
    go_enter Tryz.func47, Tryz.ntmps47
    go_wp2_with fail
    refine (unhide hA _).mono ?_
    rintro e w1 ⟨rfl, hb1⟩
    rw [unhide GA]
    have qa := ((AtomAt.new w _ _ _ _ _).more _).keep hb1
    have qb := (AtomAt.new1 w _ _ _ _ _ _).keep hb1
    obtain ⟨d0, d1, d2, d3, _⟩ := hide qb
    go_wp2_with fail
    refine (unhide hB _).mono ?_
    rintro e w2 ⟨rfl, hb2⟩
    rw [unhide GB]
    clear d0 d1 d2 d3
    obtain ⟨c0, _, _, _, _⟩ := qa.keep hb2
    obtain ⟨d0, _, _, _, _⟩ := qb.keep hb2
    go_wp2_with fail
    go_ret
    exact ⟨ret_bool (unhide HV).symm, bTr (bTr (bAl (bAl (Below.refl _ _) _) _) hb1) hb2⟩
end Go.Proofs.YtdflnjjomljgmaaGreatDoor.V
/- WAdrI, ported from seat 1a. -/
namespace Go.Proofs.YtdflnjjomljgmaaGreatDoor.V
open Go.RowKit

theorem size_kept (f b : Int) (w : World) (h0 : 0 ≤ b) (h1 : b ≤ 32) :
    Calls Tryz.prog 130 #[.agg #[.int .i64 f, .int .i64 b]] w fun e w' => e = .returned (.int .i64 (pw (32 - b).toNat)) ∧ Below w.heap.size w w' := by
  refine (size_any f b w h0 h1).mono ?_
  rintro e w' ⟨he, hw⟩
  subst hw
  exact ⟨he, bAl (Below.refl _ _) _⟩

set_option maxHeartbeats 1000000 in
theorem iAddrIn_any (x n : Int) (t y : ByteArray) (x' n' : Int) (t' y' : ByteArray) (w : World) (h9 : n ≤ 9223372036854775807) (ht : t.size ≤ maxLen) (hy : y.size ≤ maxLen)
    (h9' : n' ≤ 9223372036854775807) (ht' : t'.size ≤ maxLen) (hy' : y'.size ≤ maxLen) :
    Calls Tryz.prog 128 #[.agg #[.int .i64 x, .int .i64 n, .string t, .string y], .agg #[.int .i64 x', .int .i64 n', .string t', .string y']] w
      fun e w' => e = .returned (.bool (addrInB x n t y x' n' t' y')) ∧ Below w.heap.size w w' := by
  have hA := hide (fun w => isBlock_any x n t y w h9 ht hy)
  have hB := hide (fun w => isBlock_any x' n' t' y' w h9' ht' hy')
  cases ga : isBlk x n t y
  · have hv : addrInB x n t y x' n' t' y' = false := by unfold addrInB; rw [ga]; simp
    have HV := hide hv
    have GA := hide ga
    clear hv ga
    go_enter Tryz.func128, Tryz.ntmps128
    go_wp2_with fail
    refine (unhide hA _).mono ?_
    rintro e w1 ⟨rfl, hb1⟩
    rw [unhide GA]
    go_wp2_with fail
    go_ret
    exact ⟨ret_bool (unhide HV).symm, bTr (bAl (bAl (Below.refl _ _) _) _) hb1⟩
  cases gb : isBlk x' n' t' y'
  · have hv : addrInB x n t y x' n' t' y' = false := by unfold addrInB; rw [gb]; simp
    have HV := hide hv
    have GA := hide ga
    have GB := hide gb
    clear hv ga gb
    go_enter Tryz.func128, Tryz.ntmps128
    go_wp2_with fail
    refine (unhide hA _).mono ?_
    rintro e w1 ⟨rfl, hb1⟩
    rw [unhide GA]
    obtain ⟨d0, d1, d2, d3, _⟩ := (AtomAt.new1 w _ _ _ _ _ _).keep hb1
    go_wp2_with fail
    refine (unhide hB _).mono ?_
    rintro e w2 ⟨rfl, hb2⟩
    rw [unhide GB]
    go_wp2_with fail
    go_ret
    exact ⟨ret_bool (unhide HV).symm, bTr (bTr (bAl (bAl (Below.refl _ _) _) _) hb1) hb2⟩
  obtain ⟨rfl, a1, a2, a3⟩ := isBlk_bounds ga
  obtain ⟨rfl, b1, b2, b3⟩ := isBlk_bounds gb
  have hv : addrInB 6 n t y 6 n' t' y' = (decide (n' / 64 ≤ n / 64) && decide (n / 64 + pw (32 - n % 64).toNat ≤ n' / 64 + pw (32 - n' % 64).toNat)) := by
    unfold addrInB; rw [ga, gb]; simp
  have HV := hide hv
  have GA := hide ga
  have GB := hide gb
  clear hv ga gb
  have l1 := pw_le (k := (32 - n % 64).toNat) (by omega)
  have l2 := pw_le (k := (32 - n' % 64).toNat) (by omega)
  have p1 := pw_pos (32 - n % 64).toNat
  have p2 := pw_pos (32 - n' % 64).toNat
  have hC := hide (fun w => blockOf_any n w a1 h9)
  have hD := hide (fun w => blockOf_any n' w b1 h9')
  go_enter Tryz.func128, Tryz.ntmps128
  go_wp2_with fail
  refine (unhide hA _).mono ?_
  rintro e w1 ⟨rfl, hb1⟩
  rw [unhide GA]
  have qa := ((AtomAt.new w _ _ _ _ _).more _).keep hb1
  have qb := (AtomAt.new1 w _ _ _ _ _ _).keep hb1
  obtain ⟨d0, d1, d2, d3, _⟩ := hide qb
  go_wp2_with fail
  refine (unhide hB _).mono ?_
  rintro e w2 ⟨rfl, hb2⟩
  rw [unhide GB]
  clear d0 d1 d2 d3
  replace qa := qa.keep hb2
  replace qb := qb.keep hb2
  obtain ⟨c0, c1, c2, c3, _⟩ := hide qa
  obtain ⟨d0, d1, d2, d3, _⟩ := hide qb
  go_wp2_with fail
  have hw2 : Below w.heap.size w w2 := bTr (bTr (bAl (bAl (Below.refl _ _) _) _) hb1) hb2
  go_cut [5, 6] (fun p q w' => ∃ b c, p = .pointer (some ⟨b, 0, none⟩) ∧ q = .pointer (some ⟨c, 0, none⟩) ∧ b < w'.heap.size ∧ c < w'.heap.size ∧ w'.cell? ⟨b, 0, none⟩ = some (.int .i64 (n / 64)) ∧ w'.cell? ⟨b, 1, none⟩ = some (.int .i64 (n % 64))
    ∧ w'.cell? ⟨c, 0, none⟩ = some (.int .i64 (n' / 64)) ∧ w'.cell? ⟨c, 1, none⟩ = some (.int .i64 (n' % 64)) ∧ Below w.heap.size w w')
  case first =>
    clear hA hB GA GB HV l1 l2 p1 p2 c0 c2 c3 d0 d2 d3 qa qb hb1 hb2
    have zA : w.heap.size < w2.heap.size := World.block_lt_of_cell? w2 _ c1
    have zB : w.heap.size + 1 < w2.heap.size := World.block_lt_of_cell? w2 _ d1
    go_region_held3 (fun w' => w'.cell? ⟨w.heap.size, 1, none⟩ = some (.int .i64 n) ∧ w'.cell? ⟨w.heap.size + 1, 1, none⟩ = some (.int .i64 n')) ((refine ⟨cellB (W := w2) ?_ zA c1, cellB (W := w2) ?_ zB d1⟩ <;> (repeat (first | exact Below.refl _ _ | refine below_drewN ?_ _ | refine Below.drew ?_ | refine bAl ?_ _ | refine Below.setCell ?_ (by simp; omega) _))))
      (first | (go_at_call_of 129 (Value.int IntKind.i64 n); refine (unhide hC _).mono ?_; rintro e w' ⟨rfl, rfl⟩) | (go_at_call_of 129 (Value.int IntKind.i64 n'); refine (unhide hD _).mono ?_; rintro e w' ⟨rfl, rfl⟩))
    all_goals (go_wp2_with fail; go_meet)
    all_goals refine ⟨_, _, rfl, rfl, ?_, ?_, ?_, ?_, ?_, ?_, ?_⟩
    all_goals first
      | (refine hw2.trans (Below.mono (B := w2.heap.size) ?_ hw2.size); (repeat (first | exact Below.refl _ _ | refine Below.drew ?_ | refine bAl ?_ _)); done)
      | (simp; done)
      | (simp; omega)
      | (go_simp; done)
  case rest =>
    obtain ⟨b, c, rfl, rfl, zb, zc, e0, e1, f0, f1, hwc⟩ := hcut
    clear hA hB hC hD GA GB c0 c1 c2 c3 d0 d1 d2 d3 qa qb hb1 hb2 hw2
    by_cases hle : n' / 64 ≤ n / 64
    · have dle : decide (n' / 64 ≤ n / 64) = true := by simpa using hle
      have k0 := kept_cell (p := ⟨b, 0, none⟩) zb e0
      have k1 := kept_cell (p := ⟨b, 1, none⟩) zb e1
      have k2 := kept_cell (p := ⟨c, 0, none⟩) zc f0
      have k3 := kept_cell (p := ⟨c, 1, none⟩) zc f1
      have w1' : IntKind.i64.wrap (n / 64 + pw (32 - n % 64).toNat) = n / 64 + pw (32 - n % 64).toNat := by rw [IntKind.wrap_i64]; omega
      have w2' : IntKind.i64.wrap (n' / 64 + pw (32 - n' % 64).toNat) = n' / 64 + pw (32 - n' % 64).toNat := by rw [IntKind.wrap_i64]; omega
      go_wp2_with fail
      have ne : Nonempty (Kept wc) := ⟨⟨wc, Below.refl _ _⟩⟩
      refine wp_region_kept (by kernel_rfl) (by kernel_rfl) ?_
      repeat (first
        | go_big_quiet_step ((go_at_call 130; exact kept_call (size_kept _ _ _ (by omega) (by omega))))
        | quiet_step ((go_at_call 130; exact kept_call (size_kept _ _ _ (by omega) (by omega)))))
      refine wpQuiet_nil ?_
      rintro _ ⟨x, rfl⟩
      go_wp2
      go_ret
      exact ⟨ret_bool (by rw [unhide HV, dle]; rfl), bTr hwc x.h⟩
    · have dle : decide (n' / 64 ≤ n / 64) = false := by simpa using hle
      go_wp2_with fail
      go_quiet (fail)
      go_wp2
      go_ret
      exact ⟨ret_bool (by rw [unhide HV, dle]; rfl), below_drewN hwc _⟩
end Go.Proofs.YtdflnjjomljgmaaGreatDoor.V
