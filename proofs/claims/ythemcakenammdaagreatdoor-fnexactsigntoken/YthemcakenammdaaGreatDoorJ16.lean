/- QNum, WCmp, one behind the other. -/
import Derived.Test.YthemcakenammdaaGreatDoorJ15
import Derived.Deep.QuietTactic
import Derived.BigQuiet
import Derived.Test.YthemcakenammdaaGreatDoorJ14
import Derived.Test.YthemcakenammdaaGreatDoorJ13
/- NUMBERS: spec.l1Pow2 (39), impl.block.size (36), impl.blockOf (35), spec.l1Block (37); texts: spec.l1Printed (38), impl.goodText (51). -/
namespace Go.Proofs.YthemcakenammdaaGreatDoor
open Go.RowKit

def pw (k : Nat) : Int := 2 ^ k
theorem pw_zero : pw 0 = 1 := rfl
theorem pw_succ (k : Nat) : pw (k + 1) = pw k * 2 := by unfold pw; rw [Int.pow_succ]
theorem pw_pos (k : Nat) : 1 ≤ pw k := by
  induction k with
  | zero => simp [pw_zero]
  | succ k ih => rw [pw_succ]; omega
theorem pw_mono {a b : Nat} (h : a ≤ b) : pw a ≤ pw b := by
  induction b with
  | zero => simp at h; subst h; exact Int.le_refl _
  | succ b ih =>
    by_cases e : a = b + 1
    · subst e; exact Int.le_refl _
    · have := ih (by omega); have := pw_pos b; rw [pw_succ]; omega
theorem pw_32 : pw 32 = 4294967296 := by decide
theorem pw_le {k : Nat} (h : k ≤ 32) : pw k ≤ 4294967296 := by rw [← pw_32]; exact pw_mono h

theorem ret_int {k : IntKind} {a b : Int} (h : a = b) : Ending.returned (.int k a) = .returned (.int k b) := by rw [h]

theorem l1Pow2_any (n : Int) (w : World) (h0 : 0 ≤ n) (h1 : n ≤ 32) :
    Calls Tryz.prog 81 #[.int .i64 n] w fun e w' => e = .returned (.int .i64 (pw n.toNat)) ∧ w = w' := by
  obtain ⟨m, rfl⟩ := Int.eq_ofNat_of_zero_le h0
  rw [Int.toNat_natCast]
  go_enter Tryz.func81, Tryz.ntmps81
  go_wp2
  go_loop [3, 4] (fun o i => ∃ k : Nat, k ≤ m ∧ i = .int .i64 k ∧ o = .int .i64 (pw k)) (fun _ i => m - (intOf i).toNat)
  case atStart => exact ⟨0, Nat.zero_le _, rfl, rfl⟩
  case round =>
    obtain ⟨k, hk, rfl, rfl⟩ := hrel
    have hb := pw_le (k := k) (by omega)
    have hp := pw_pos k
    by_cases hlt : k < m
    · go_wp2
      exact ⟨⟨k + 1, by omega, by go_num, by rw [pw_succ]⟩, by simp [intOf]; omega⟩
    · go_wp2
      go_ret
      have e : k = m := by omega
      subst e
      exact ⟨rfl, rfl⟩

theorem wrap_pw {k : Nat} (h : k ≤ 32) : wrap64 (2 ^ k) = pw k := by
  have h1 := pw_le h
  have h2 := pw_pos k
  show wrap64 (pw k) = pw k
  simp only [wrap64]; omega

theorem size_any (f b : Int) (w : World) (h0 : 0 ≤ b) (h1 : b ≤ 32) :
    Calls Tryz.prog 114 #[.agg #[.int .i64 f, .int .i64 b]] w fun e w' => e = .returned (.int .i64 (pw (32 - b).toNat)) ∧ w' = w.alloc (.cells #[.int .i64 f, .int .i64 b] 84) := by
  go_enter Tryz.func114, Tryz.ntmps114
  go_wp2
  go_ret
  exact ⟨ret_int (wrap_pw (by omega)), rfl⟩

theorem blockOf_any (n : Int) (w : World) (h0 : 0 ≤ n) (h1 : n ≤ 9223372036854775807) :
    Calls Tryz.prog 73 #[.int .i64 n] w fun e w' => e = .returned (.agg #[.int .i64 (n / 64), .int .i64 (n % 64)]) ∧ w' = w.alloc (.cells #[.int .i64 (n / 64), .int .i64 (n % 64)] 84) := by
  go_enter Tryz.func73, Tryz.ntmps73
  go_wp2
  exact bodyPost_ret (v := .agg #[.int .i64 (n / 64), .int .i64 (n % 64)]) (by simp [results, Tryz.results73, go_sem]) rfl ⟨rfl, rfl⟩

theorem l1Block_any (k n : Int) (t ty : ByteArray) (w : World) (h0 : 0 ≤ n) (h1 : n ≤ 9223372036854775807) (h2 : n % 64 ≤ 32) :
    Calls Tryz.prog 63 #[.agg #[.int .i64 k, .int .i64 n, .string t, .string ty]] w fun e w' => e = .returned (.tuple #[.int .i64 (n / 64), .int .i64 (pw (32 - n % 64).toNat)]) ∧ Below w.heap.size w w' := by
  have e1 : n.tmod 64 = n % 64 := Int.tmod_eq_emod_of_nonneg h0
  have e2 : n.tdiv 64 = n / 64 := Int.tdiv_eq_ediv_of_nonneg h0
  have e3 : IntKind.i64.wrap (32 - n % 64) = 32 - n % 64 := by rw [IntKind.wrap_i64]; omega
  have e4 : IntKind.i64.wrap (n / 64) = n / 64 := by rw [IntKind.wrap_i64]; omega
  have hc := hide (fun w => l1Pow2_any (32 - n % 64) w (by omega) (by omega))
  go_enter Tryz.func63, Tryz.ntmps63
  go_wp2
  go_quiet ((go_at_call 81; exact quiet_same (unhide hc _)))
  go_wp2
  go_ret2
  exact ⟨rfl, below_drewN ((Below.refl _ _).alloc (Nat.le_refl _) _) _⟩

end Go.Proofs.YthemcakenammdaaGreatDoor
/- WCmp, ported from seat 1a. -/
namespace Go.Proofs.YthemcakenammdaaGreatDoor.V
open Go.RowKit

theorem cmpNum_any (a b : Int) (w : World) : Calls Tryz.prog 82 #[.int .i64 a, .int .i64 b] w fun e w' => e = .returned (.int .i64 (cmpN a b)) ∧ w = w' := by
  unfold cmpN
  by_cases h : a < b
  · rw [if_pos h]
    go_enter Tryz.func82, Tryz.ntmps82
    go_wp2
    go_ret
    exact ⟨rfl, rfl⟩
  · rw [if_neg h]
    by_cases h2 : b < a
    · rw [if_pos h2]
      go_enter Tryz.func82, Tryz.ntmps82
      go_wp2
      go_ret
      exact ⟨rfl, rfl⟩
    · rw [if_neg h2]
      go_enter Tryz.func82, Tryz.ntmps82
      go_wp2
      go_ret
      exact ⟨rfl, rfl⟩

theorem compareInt_any (a b : Int) (w : World) : Calls Tryz.prog 104 #[.int .i64 a, .int .i64 b] w fun e w' => e = .returned (.int .i64 (cmpN a b)) ∧ w = w' := by
  unfold cmpN
  by_cases h : a < b
  · rw [if_pos h]
    go_enter Tryz.func104, Tryz.ntmps104
    go_wp2
    go_ret
    exact ⟨rfl, rfl⟩
  · rw [if_neg h]
    by_cases h2 : b < a
    · rw [if_pos h2]
      go_enter Tryz.func104, Tryz.ntmps104
      go_wp2
      go_ret
      exact ⟨rfl, rfl⟩
    · rw [if_neg h2]
      go_enter Tryz.func104, Tryz.ntmps104
      go_wp2
      go_ret
      exact ⟨rfl, rfl⟩

theorem compareStr_any (a b : ByteArray) (w : World) : Calls Tryz.prog 105 #[.string a, .string b] w fun e w' => e = .returned (.int .i64 (cmpT a.data.toList b.data.toList)) ∧ w = w' := by
  rw [cmpT_less, ← ByteArray.toList_eq, ← ByteArray.toList_eq]
  cases h : Op.bytesLess a.toList b.toList
  · cases h2 : a.toList == b.toList
    all_goals
      go_enter Tryz.func105, Tryz.ntmps105
      go_wp2
      go_ret
      exact ⟨rfl, rfl⟩
  · go_enter Tryz.func105, Tryz.ntmps105
    go_wp2
    go_ret
    exact ⟨rfl, rfl⟩

set_option maxHeartbeats 1000000 in
theorem cmpText_any (a b : ByteArray) (w : World) (ha : a.size ≤ maxLen) :
    Calls Tryz.prog 59 #[.string a, .string b] w fun e w' => e = .returned (.int .i64 (cmpT a.data.toList b.data.toList)) ∧ Below w.heap.size w w' := by
  unfold maxLen at ha
  have la : a.data.toList.length = a.size := by simp
  have lb : b.data.toList.length = b.size := by simp
  have LA := hide la
  have LB := hide lb
  clear la lb
  go_enter Tryz.func59, Tryz.ntmps59
  go_wp2
  go_loopw [5] (fun i w' => ∃ k : Nat, k ≤ a.size ∧ k ≤ b.size ∧ i = .int .i64 k ∧ Below w.heap.size w w' ∧ Hid (cmpT a.data.toList b.data.toList = cmpT (a.data.toList.drop k) (b.data.toList.drop k))) (fun i _ => a.size - (intOf i).toNat)
  case atStart => exact ⟨0, Nat.zero_le _, Nat.zero_le _, rfl, Below.refl _ _, hide (by simp)⟩
  case round =>
    obtain ⟨k, hk1, hk2, rfl, hbel, hc⟩ := hrel
    by_cases h1 : (k : Int) < (a.size : Int)
    · by_cases h2 : (k : Int) < (b.size : Int)
      · have h0 : (0 : Int) ≤ (k : Int) := by omega
        have ka : k < a.size := by omega
        have kb : k < b.size := by omega
        have eA : a.data.toList[k]'(by rw [unhide LA]; exact ka) = a[k] := rfl
        have eB : b.data.toList[k]'(by rw [unhide LB]; exact kb) = b[k] := rfl
        have EA := hide eA
        have EB := hide eB
        clear eA eB
        cases hne : ((a[k].toNat : Int) != (b[k].toNat : Int))
        · have he : a[k] = b[k] := by
            apply u8_eq; simpa using hne
          have HE := hide he
          clear he
          go_wp2
          go_quiet (fail)
          go_wp2
          go_roundw
          case rel => exact ⟨k + 1, by omega, by omega, by go_num, below_drewN hbel _, hide (by rw [unhide hc]; exact cmpT_drop_step _ _ k (by rw [unhide LA]; exact ka) (by rw [unhide LB]; exact kb) (unhide HE))⟩
          case measure => simp [intOf]; omega
        · have he : ¬ a[k] = b[k] := by
            intro h; rw [h] at hne; simp at hne
          have HE := hide he
          clear he
          have wA : IntKind.i64.wrap (a[k].toNat : Int) = (a[k].toNat : Int) := by rw [IntKind.wrap_i64]; have := a[k].toNat_lt; omega
          have wB : IntKind.i64.wrap (b[k].toNat : Int) = (b[k].toNat : Int) := by rw [IntKind.wrap_i64]; have := b[k].toNat_lt; omega
          go_wp2
          go_quiet (fail)
          replace hbel := below_drewN hbel nq
          generalize wr.drewN nq = w5 at hbel ⊢
          go_wp2
          go_quiet ((go_at_call 82; exact quiet_same (cmpNum_any _ _ _)))
          go_wp2
          go_ret
          refine ⟨ret_int ?_, below_drewN hbel _⟩
          rw [unhide hc, cmpT_drop_differ _ _ k (by rw [unhide LA]; exact ka) (by rw [unhide LB]; exact kb) (unhide HE)]
          rfl
      · have d2 : decide ((k : Int) < (b.size : Int)) = false := by simpa using h2
        go_wp2_with (go_at_call 82; refine (cmpNum_any _ _ _).mono ?_; rintro e w' ⟨rfl, rfl⟩)
        go_ret
        refine ⟨ret_int ?_, hbel⟩
        rw [unhide hc, cmpT_drop_end _ _ k (by rw [unhide LA, unhide LB]; omega), unhide LA, unhide LB]
    · have d1 : decide ((k : Int) < (a.size : Int)) = false := by simpa using h1
      go_wp2_with (go_at_call 82; refine (cmpNum_any _ _ _).mono ?_; rintro e w' ⟨rfl, rfl⟩)
      go_ret
      refine ⟨ret_int ?_, hbel⟩
      rw [unhide hc, cmpT_drop_end _ _ k (by rw [unhide LA, unhide LB]; omega), unhide LA, unhide LB]

theorem bne_zero {c : Int} (h : ¬ c = 0) : (c != 0) = true := by simpa using h

set_option maxHeartbeats 1000000 in
theorem l1Cmp_any (x n : Int) (t y : ByteArray) (x' n' : Int) (t' y' : ByteArray) (w : World) (ht : t.size ≤ maxLen) (hy : y.size ≤ maxLen) :
    Calls Tryz.prog 57 #[.agg #[.int .i64 x, .int .i64 n, .string t, .string y], .agg #[.int .i64 x', .int .i64 n', .string t', .string y']] w
      fun e w' => e = .returned (.int .i64 (cmpA x n t y x' n' t' y')) ∧ Below w.heap.size w w' := by
  unfold cmpA
  have h1 := hide (fun w => cmpNum_any x x' w)
  have h2 := hide (fun w => cmpNum_any n n' w)
  have h3 := hide (fun w => cmpText_any y y' w hy)
  have h4 := hide (fun w => cmpText_any t t' w ht)
  generalize cmpN x x' = c1 at h1 ⊢
  generalize cmpN n n' = c2 at h2 ⊢
  generalize cmpT y.data.toList y'.data.toList = c3 at h3 ⊢
  generalize cmpT t.data.toList t'.data.toList = c4 at h4 ⊢
  clear ht hy
  unfold orI
  by_cases g1 : c1 = 0
  · subst g1
    rw [if_pos rfl]
    by_cases g2 : c2 = 0
    · subst g2
      rw [if_pos rfl]
      by_cases g3 : c3 = 0
      · subst g3
        rw [if_pos rfl]
        go_enter Tryz.func57, Tryz.ntmps57
        go_wp2_with fail
        refine (unhide h1 _).mono ?_
        rintro e w' ⟨rfl, rfl⟩
        go_wp2_with fail
        refine (unhide h2 _).mono ?_
        rintro e w' ⟨rfl, rfl⟩
        go_wp2_with fail
        refine (unhide h3 _).mono ?_
        rintro e w1 ⟨rfl, hb1⟩
        obtain ⟨_, _, c2, _, _⟩ := ((AtomAt.new w _ _ _ _ _).more _).keep hb1
        obtain ⟨_, _, d2, _, _⟩ := (AtomAt.new1 w _ _ _ _ _ _).keep hb1
        go_wp2_with fail
        refine (unhide h4 _).mono ?_
        rintro e w2 ⟨rfl, hb2⟩
        go_wp2_with fail
        go_ret
        exact ⟨rfl, bTr (bTr (bAl (bAl (Below.refl _ _) _) _) hb1) hb2⟩
      · rw [if_neg g3]
        replace g3 := bne_zero g3
        go_enter Tryz.func57, Tryz.ntmps57
        go_wp2_with fail
        refine (unhide h1 _).mono ?_
        rintro e w' ⟨rfl, rfl⟩
        go_wp2_with fail
        refine (unhide h2 _).mono ?_
        rintro e w' ⟨rfl, rfl⟩
        go_wp2_with fail
        refine (unhide h3 _).mono ?_
        rintro e w1 ⟨rfl, hb1⟩
        go_wp2_with fail
        go_ret
        exact ⟨rfl, bTr (bAl (bAl (Below.refl _ _) _) _) hb1⟩
    · rw [if_neg g2]
      replace g2 := bne_zero g2
      go_enter Tryz.func57, Tryz.ntmps57
      go_wp2_with fail
      refine (unhide h1 _).mono ?_
      rintro e w' ⟨rfl, rfl⟩
      go_wp2_with fail
      refine (unhide h2 _).mono ?_
      rintro e w' ⟨rfl, rfl⟩
      go_wp2_with fail
      go_ret
      exact ⟨rfl, bAl (bAl (Below.refl _ _) _) _⟩
  · rw [if_neg g1]
    replace g1 := bne_zero g1
    go_enter Tryz.func57, Tryz.ntmps57
    go_wp2_with fail
    refine (unhide h1 _).mono ?_
    rintro e w' ⟨rfl, rfl⟩
    go_wp2_with fail
    go_ret
    exact ⟨rfl, bAl (bAl (Below.refl _ _) _) _⟩

def orFrom (v0 v1 v2 v3 : Int) : Nat → Int
  | 0 => orI v0 (orI v1 (orI v2 v3))
  | 1 => orI v1 (orI v2 v3)
  | 2 => orI v2 v3
  | 3 => v3
  | _ => 0
theorem orI_zero (b : Int) : orI 0 b = b := by unfold orI; rw [if_pos rfl]
theorem orI_not {a : Int} (h : ¬ a = 0) (b : Int) : orI a b = a := by unfold orI; rw [if_neg h]

set_option maxHeartbeats 1000000 in
theorem cmpOr_any (b : Nat) (v0 v1 v2 v3 : Int) (w : World) (c0 : w.cell? ⟨b, 0, none⟩ = some (.int .i64 v0)) (c1 : w.cell? ⟨b, 1, none⟩ = some (.int .i64 v1))
    (c2 : w.cell? ⟨b, 2, none⟩ = some (.int .i64 v2)) (c3 : w.cell? ⟨b, 3, none⟩ = some (.int .i64 v3)) :
    Calls Tryz.prog 103 #[.slice (some ⟨b, 0, none⟩) 4 4] w fun e w' => e = .returned (.int .i64 (orI v0 (orI v1 (orI v2 v3)))) ∧ w = w' := by
  go_enter Tryz.func103, Tryz.ntmps103
  go_wp2
  go_loop [8] (fun i => ∃ k : Nat, k ≤ 4 ∧ i = .int .i64 k ∧ Hid (orI v0 (orI v1 (orI v2 v3)) = orFrom v0 v1 v2 v3 k)) (fun i => 4 - (intOf i).toNat)
  case atStart => exact ⟨0, Nat.zero_le _, rfl, hide rfl⟩
  case round =>
    obtain ⟨k, hk, rfl, ho⟩ := hrel
    have hk' : k = 0 ∨ k = 1 ∨ k = 2 ∨ k = 3 ∨ k = 4 := by omega
    rcases hk' with rfl | rfl | rfl | rfl | rfl
    · by_cases g : v0 = 0
      · subst g
        go_wp2
        exact ⟨⟨1, by omega, rfl, hide (by rw [unhide ho]; exact orI_zero _)⟩, by simp [intOf]⟩
      · replace ho := hide (by rw [unhide ho]; exact orI_not g _ : orI v0 (orI v1 (orI v2 v3)) = v0)
        replace g := bne_zero g
        go_wp2
        go_ret
        exact ⟨ret_int (unhide ho).symm, rfl⟩
    · by_cases g : v1 = 0
      · subst g
        go_wp2
        exact ⟨⟨2, by omega, rfl, hide (by rw [unhide ho]; exact orI_zero _)⟩, by simp [intOf]⟩
      · replace ho := hide (by rw [unhide ho]; exact orI_not g _ : orI v0 (orI v1 (orI v2 v3)) = v1)
        replace g := bne_zero g
        go_wp2
        go_ret
        exact ⟨ret_int (unhide ho).symm, rfl⟩
    · by_cases g : v2 = 0
      · subst g
        go_wp2
        exact ⟨⟨3, by omega, rfl, hide (by rw [unhide ho]; exact orI_zero _)⟩, by simp [intOf]⟩
      · replace ho := hide (by rw [unhide ho]; exact orI_not g _ : orI v0 (orI v1 (orI v2 v3)) = v2)
        replace g := bne_zero g
        go_wp2
        go_ret
        exact ⟨ret_int (unhide ho).symm, rfl⟩
    · by_cases g : v3 = 0
      · subst g
        go_wp2
        exact ⟨⟨4, by omega, rfl, hide (by rw [unhide ho]; rfl)⟩, by simp [intOf]⟩
      · replace ho := hide (by rw [unhide ho]; rfl : orI v0 (orI v1 (orI v2 v3)) = v3)
        replace g := bne_zero g
        go_wp2
        go_ret
        exact ⟨ret_int (unhide ho).symm, rfl⟩
    · go_wp2
      go_ret
      exact ⟨ret_int (unhide ho).symm, rfl⟩
end Go.Proofs.YthemcakenammdaaGreatDoor.V
