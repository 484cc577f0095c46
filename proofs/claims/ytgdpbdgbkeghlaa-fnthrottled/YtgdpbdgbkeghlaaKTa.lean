/- TRIES: impl.between, spec.l15Lesser, lockBehind, TryOnce on both sides. -/
import Derived.Test.YtgdpbdgbkeghlaaQNum
namespace Go.Proofs.Ytgdpbdgbkeghlaa
open Go.RowKit

theorem between_any (a b c : Int) (w : World) : Calls Try.prog 14 #[.int .i64 a, .int .i64 b, .int .i64 c] w fun e w' => e = .returned (.bool (decide (a ≤ b ∧ b ≤ c))) ∧ w = w' := by
  go_enter Try.func14, Try.ntmps14
  go_wp2
  all_goals go_ret
  all_goals refine ⟨ret_bool ?_, rfl⟩
  all_goals (rw [Bool.eq_iff_iff]; simp; try omega)
theorem l15Lesser_any (a b : Int) (w : World) : Calls Try.prog 17 #[.int .i64 a, .int .i64 b] w fun e w' => e = .returned (.int .i64 (if a ≤ b then a else b)) ∧ w = w' := by
  go_enter Try.func17, Try.ntmps17
  go_wp2
  all_goals go_ret
  all_goals refine ⟨ret_int ?_, rfl⟩
  all_goals omega

/-- How long a lock is on, behind so many wrong tries above the third. -/
def lck (m : Nat) : Int := if 9 ≤ m then 3600 else 10 * pw m
theorem pw_9 : pw 9 = 512 := by decide
theorem pw_8 : pw 8 = 256 := by decide
theorem lck_low {m : Nat} (h : m < 9) : lck m = 10 * pw m := by unfold lck; rw [if_neg (by omega)]
theorem lck_high {m : Nat} (h : 9 ≤ m) : lck m = 3600 := by unfold lck; rw [if_pos h]
theorem lck_le (m : Nat) : 10 ≤ lck m ∧ lck m ≤ 3600 := by
  by_cases h : m < 9
  · rw [lck_low h]
    have := pw_mono (a := m) (b := 8) (by omega)
    have := pw_pos m
    rw [pw_8] at *
    omega
  · rw [lck_high (by omega)]; omega
theorem lck_spec (m : Nat) : (if (3600 : Int) ≤ 10 * pw (min m 20) then 3600 else 10 * pw (min m 20)) = lck m := by
  by_cases h : m < 9
  · rw [lck_low h, Nat.min_eq_left (by omega)]
    have := pw_mono (a := m) (b := 8) (by omega)
    rw [pw_8] at this
    rw [if_neg (by omega)]
  · rw [lck_high (by omega)]
    have := pw_mono (a := 9) (b := min m 20) (by omega)
    rw [pw_9] at this
    rw [if_pos (by omega)]

theorem lockBehind_any (m : Nat) (w : World) (h : m ≤ 1000000) : Calls Try.prog 19 #[.int .i64 ((m : Int) + 3)] w fun e w' => e = .returned (.int .i64 (lck m)) ∧ w = w' := by
  go_enter Try.func19, Try.ntmps19
  go_wp2
  go_loop [3, 4] (fun o i => ∃ j : Nat, j ≤ m ∧ j ≤ 9 ∧ o = .int .i64 (10 * pw j) ∧ i = .int .i64 ((m : Int) - j)) (fun _ i => (intOf i).toNat)
  case atStart => exact ⟨0, Nat.zero_le _, by omega, rfl, by simp⟩
  case round =>
    obtain ⟨j, hj, hj9, rfl, rfl⟩ := hrel
    have hb := pw_mono (a := j) (b := 9) hj9
    have hp := pw_pos j
    rw [pw_9] at hb
    by_cases h1 : j < m
    · by_cases h2 : 10 * pw j < 3600
      · have d1 : decide ((j : Int) < m) = true := by simp; omega
        have h9 : j < 9 := by
          refine Nat.lt_of_not_le fun h => ?_
          have := pw_mono (a := 9) (b := j) h
          rw [pw_9] at this; omega
        go_wp2
        exact ⟨⟨j + 1, by omega, by omega, by rw [pw_succ, Int.mul_assoc], by rw [Int.natCast_add]; congr 1; omega⟩, by simp [intOf]; omega⟩
      · go_wp2
        all_goals go_ret
        all_goals
         have h9 : 9 ≤ j := by
          refine Nat.le_of_not_lt fun h => ?_
          have := pw_mono (a := j) (b := 8) (by omega)
          rw [pw_8] at this; omega
         exact ⟨ret_int (by rw [lck_high (by omega)]; try omega), rfl⟩
    · go_wp2
      all_goals go_ret
      all_goals
       have e : j = m := by omega
       subst e
       refine ⟨ret_int ?_, rfl⟩
       by_cases h9 : j < 9
       · rw [lck_low h9]; try (have := pw_mono (a := j) (b := 8) (by omega); rw [pw_8] at this; omega)
       · rw [lck_high (by omega)]; try (have := pw_mono (a := 9) (b := j) (by omega); rw [pw_9] at this; omega)

/-- A throttle's three numbers. -/
structure ThT where
  f0 : Int
  f1 : Int
  f2 : Int
def ThT.v (x : ThT) : Value := .agg #[.int .i64 x.f0, .int .i64 x.f1, .int .i64 x.f2]
structure ThT.Ok (x : ThT) : Prop where
  o0 : (Lit.int .i64 x.f0).wf = true
  o1 : (Lit.int .i64 x.f1).wf = true
  o2 : (Lit.int .i64 x.f2).wf = true
def ThT.Good (x : ThT) : Prop := (0 ≤ x.f0 ∧ x.f0 ≤ 1000000) ∧ (0 ≤ x.f1 ∧ x.f1 ≤ 100000003600) ∧ (0 ≤ x.f2 ∧ x.f2 ≤ 100000003600)
instance (x : ThT) : Decidable x.Good := by unfold ThT.Good; exact inferInstance
def wrongT (x : ThT) (t : Int) : ThT := if x.f0 < 2 then ⟨x.f0 + 1, 0, t⟩ else if x.f0 < 1000000 then ⟨x.f0 + 1, t + lck (x.f0 - 2).toNat, t⟩ else ⟨1000000, t + 3600, t⟩
def tryT (x : ThT) (t : Int) (r : Bool) : ThT × Int :=
  if x.Good ∧ x.f2 ≤ t ∧ t ≤ 100000000000 then
    if t < x.f1 then (x, 2) else if r then (⟨0, 0, t⟩, 0) else (wrongT x t, 1)
  else (⟨0, 0, 0⟩, -1)

def ThT.o (x : ThT) : Obj := .cells #[.int .i64 x.f0, .int .i64 x.f1, .int .i64 x.f2] 29
set_option maxHeartbeats 2000000 in
theorem thIsGood_any (x : ThT) (w : World) : Calls Try.prog 13 #[x.v] w fun e w' => e = .returned (.bool (decide x.Good)) ∧ w' = w.alloc x.o := by
  obtain ⟨a, b, c⟩ := x
  unfold ThT.v ThT.o
  have hd : decide (ThT.mk a b c).Good = (decide (0 ≤ a ∧ a ≤ 1000000) && (decide (0 ≤ b ∧ b ≤ 100000003600) && decide (0 ≤ c ∧ c ≤ 100000003600))) := by
    rw [Bool.eq_iff_iff, Bool.and_eq_true, Bool.and_eq_true, decide_eq_true_eq, decide_eq_true_eq, decide_eq_true_eq, decide_eq_true_eq]; exact Iff.rfl
  rw [hd]; clear hd
  have q0 := hide (fun w => between_any 0 a 1000000 w)
  have q1 := hide (fun w => between_any 0 b 100000003600 w)
  have q2 := hide (fun w => between_any 0 c 100000003600 w)
  generalize decide (0 ≤ a ∧ a ≤ 1000000) = d0 at *
  generalize decide (0 ≤ b ∧ b ≤ 100000003600) = d1 at *
  generalize decide (0 ≤ c ∧ c ≤ 100000003600) = d2 at *
  cases d0 <;> cases d1 <;> cases d2
  all_goals
    go_enter Try.func13, Try.ntmps13
    go_wp2_with (go_at_call 14; (first | with_reducible refine (unhide q0 _).mono ?_ | with_reducible refine (unhide q1 _).mono ?_ | with_reducible refine (unhide q2 _).mono ?_); rintro e w' ⟨rfl, rfl⟩)
    go_ret
    exact ⟨by first | rfl | simp, rfl⟩
set_option maxRecDepth 8000 in
set_option maxHeartbeats 1000000 in
theorem afterWrong_any (x : ThT) (t : Int) (w : World) (hg : x.Good) (h0 : 0 ≤ t) (h1 : t ≤ 100000000000) : Calls Try.prog 15 #[x.v, .int .i64 t] w fun e w' => e = .returned (wrongT x t).v ∧ w' = ((w.alloc x.o).alloc (wrongT x t).o).alloc (wrongT x t).o := by
  obtain ⟨a, b, c⟩ := x
  obtain ⟨⟨g0, g1⟩, -⟩ := hg
  simp only at g0 g1
  unfold wrongT ThT.v ThT.o
  simp only
  by_cases k2 : a < 2
  · rw [if_pos k2]
    have k3 : a + 1 < 3 := by omega
    go_enter Try.func15, Try.ntmps15
    go_wp2_with fail
    exact bodyPost_ret (v := .agg #[.int .i64 (a + 1), .int .i64 0, .int .i64 t]) (by simp [results, Try.results15, go_sem]) rfl ⟨rfl, rfl⟩
  · rw [if_neg k2]
    by_cases k3 : a < 1000000
    · rw [if_pos k3]
      have hq : Hid (∀ w, Calls Try.prog 19 #[.int .i64 (a + 1)] w fun e w' => e = .returned (.int .i64 (lck (a - 2).toNat)) ∧ w = w') := hide (fun w => by
        have h := lockBehind_any (a - 2).toNat w (by omega)
        have e1 : (((a - 2).toNat : Nat) : Int) + 3 = a + 1 := by omega
        rw [e1] at h; exact h)
      have hk := lck_le (a - 2).toNat
      generalize lck (a - 2).toNat = L at *
      obtain ⟨l0, l1⟩ := hk
      have k4 : a ≤ 999999 := by omega
      go_enter Try.func15, Try.ntmps15
      go_wp2_with (go_at_call 19; refine (unhide hq _).mono ?_; rintro e w' ⟨rfl, rfl⟩)
      exact bodyPost_ret (v := .agg #[.int .i64 (a + 1), .int .i64 (t + L), .int .i64 t]) (by simp [results, Try.results15, go_sem]) rfl ⟨rfl, rfl⟩
    · rw [if_neg k3]
      obtain rfl : a = 1000000 := by omega
      have hq := hide (fun w => lockBehind_any 999997 w (by omega))
      rw [lck_high (by omega)] at hq
      go_enter Try.func15, Try.ntmps15
      go_wp2_with (go_at_call 19; refine (unhide hq _).mono ?_; rintro e w' ⟨rfl, rfl⟩)
      exact bodyPost_ret (v := .agg #[.int .i64 1000000, .int .i64 (t + 3600), .int .i64 t]) (by simp [results, Try.results15, go_sem]) rfl ⟨rfl, rfl⟩
set_option maxHeartbeats 1000000 in
theorem iTryOnce_any (x : ThT) (t : Int) (r : Bool) (w : World) : Calls Try.prog 8 #[x.v, .int .i64 t, .bool r] w fun e w' => e = .returned (.tuple #[(tryT x t r).1.v, .int .i64 (tryT x t r).2]) ∧ Below w.heap.size w w' := by
  have q1 := hide (thIsGood_any x)
  have q2 := hide (between_any x.f2 t 100000000000)
  have q3 := hide (fun w => afterWrong_any x t w)
  by_cases hG : x.Good
  · rw [decide_eq_true hG] at q1
    by_cases hT : x.f2 ≤ t ∧ t ≤ 100000000000
    · rw [decide_eq_true hT] at q2
      have e : tryT x t r = if t < x.f1 then (x, 2) else if r then (⟨0, 0, t⟩, 0) else (wrongT x t, 1) := by unfold tryT; rw [if_pos ⟨hG, hT⟩]
      rw [e]; clear e
      have q4 := hide (fun w => unhide q3 w hG (by have := hG.2.2.1; omega) hT.2)
      clear q3 hG hT
      obtain ⟨a, b, c⟩ := x
      generalize hv : wrongT ⟨a, b, c⟩ t = y at *
      clear hv
      obtain ⟨y0, y1, y2⟩ := y
      unfold ThT.v ThT.o at *
      by_cases h3 : t < b
      · rw [if_pos h3]
        go_enter Try.func8, Try.ntmps8
        go_wp2_with (first
          | (go_at_call 13; refine (unhide q1 _).mono ?_; rintro e w' ⟨rfl, rfl⟩)
          | (go_at_call 14; refine (unhide q2 _).mono ?_; rintro e w' ⟨rfl, rfl⟩)
          | (go_at_call 15; refine (unhide q4 _).mono ?_; rintro e w' ⟨rfl, rfl⟩))
        exact bodyPost_ret (v := .tuple #[.agg #[.int .i64 a, .int .i64 b, .int .i64 c], .int .i64 2]) (by simp [results, Try.results8, go_sem]) rfl ⟨rfl, by repeat (first | exact Below.refl _ _ | refine bAl ?_ _)⟩
      · rw [if_neg h3]
        cases r
        · go_enter Try.func8, Try.ntmps8
          go_wp2_with (first
            | (go_at_call 13; refine (unhide q1 _).mono ?_; rintro e w' ⟨rfl, rfl⟩)
            | (go_at_call 14; refine (unhide q2 _).mono ?_; rintro e w' ⟨rfl, rfl⟩)
            | (go_at_call 15; refine (unhide q4 _).mono ?_; rintro e w' ⟨rfl, rfl⟩))
          exact bodyPost_ret (v := .tuple #[.agg #[.int .i64 y0, .int .i64 y1, .int .i64 y2], .int .i64 1]) (by simp [results, Try.results8, go_sem]) rfl ⟨rfl, by repeat (first | exact Below.refl _ _ | refine bAl ?_ _)⟩
        · go_enter Try.func8, Try.ntmps8
          go_wp2_with (first
            | (go_at_call 13; refine (unhide q1 _).mono ?_; rintro e w' ⟨rfl, rfl⟩)
            | (go_at_call 14; refine (unhide q2 _).mono ?_; rintro e w' ⟨rfl, rfl⟩)
            | (go_at_call 15; refine (unhide q4 _).mono ?_; rintro e w' ⟨rfl, rfl⟩))
          exact bodyPost_ret (v := .tuple #[.agg #[.int .i64 0, .int .i64 0, .int .i64 t], .int .i64 0]) (by simp [results, Try.results8, go_sem]) rfl ⟨rfl, by repeat (first | exact Below.refl _ _ | refine bAl ?_ _)⟩
    · rw [decide_eq_false hT] at q2
      have e : tryT x t r = (⟨0, 0, 0⟩, -1) := by unfold tryT; rw [if_neg (fun h => hT h.2)]
      rw [e]; clear e q3 hG hT
      obtain ⟨a, b, c⟩ := x
      unfold ThT.v ThT.o at *
      go_enter Try.func8, Try.ntmps8
      go_wp2_with (first
        | (go_at_call 13; refine (unhide q1 _).mono ?_; rintro e w' ⟨rfl, rfl⟩)
        | (go_at_call 14; refine (unhide q2 _).mono ?_; rintro e w' ⟨rfl, rfl⟩))
      exact bodyPost_ret (v := .tuple #[.agg #[.int .i64 0, .int .i64 0, .int .i64 0], .int .i64 (-1)]) (by simp [results, Try.results8, go_sem]) rfl ⟨rfl, by repeat (first | exact Below.refl _ _ | refine bAl ?_ _)⟩
  · rw [decide_eq_false hG] at q1
    have e : tryT x t r = (⟨0, 0, 0⟩, -1) := by unfold tryT; rw [if_neg (fun h => hG h.1)]
    rw [e]; clear e q2 q3 hG
    obtain ⟨a, b, c⟩ := x
    unfold ThT.v ThT.o at *
    go_enter Try.func8, Try.ntmps8
    go_wp2_with (first
        | (go_at_call 13; refine (unhide q1 _).mono ?_; rintro e w' ⟨rfl, rfl⟩))
    exact bodyPost_ret (v := .tuple #[.agg #[.int .i64 0, .int .i64 0, .int .i64 0], .int .i64 (-1)]) (by simp [results, Try.results8, go_sem]) rfl ⟨rfl, by repeat (first | exact Below.refl _ _ | refine bAl ?_ _)⟩

set_option maxRecDepth 8000 in
set_option maxHeartbeats 4000000 in
theorem sTryOnce_any (x : ThT) (t : Int) (r : Bool) (w : World) : Calls Try.prog 12 #[x.v, .int .i64 t, .bool r] w fun e w' => e = .returned (.tuple #[(tryT x t r).1.v, .int .i64 (tryT x t r).2]) ∧ Below w.heap.size w w' := by
  by_cases hG : x.Good ∧ x.f2 ≤ t ∧ t ≤ 100000000000
  · have e : tryT x t r = if t < x.f1 then (x, 2) else if r then (⟨0, 0, t⟩, 0) else (wrongT x t, 1) := by unfold tryT; rw [if_pos hG]
    rw [e]; clear e
    obtain ⟨a, b, c⟩ := x
    obtain ⟨⟨⟨g0, g1⟩, ⟨g2, g3⟩, ⟨g4, g5⟩⟩, g6, g7⟩ := hG
    simp only at g0 g1 g2 g3 g4 g5 g6 g7 ⊢
    by_cases h3 : t < b
    · rw [if_pos h3]
      unfold ThT.v
      go_enter Try.func12, Try.ntmps12
      go_wp2_with fail
      exact bodyPost_ret (v := .tuple #[.agg #[.int .i64 a, .int .i64 b, .int .i64 c], .int .i64 2]) (by simp [results, Try.results12, go_sem]) rfl ⟨rfl, by repeat (first | exact Below.refl _ _ | refine bAl ?_ _)⟩
    · rw [if_neg h3]
      cases r
      · show Calls Try.prog 12 #[_, _, _] w fun e w' => e = .returned (.tuple #[(wrongT ⟨a, b, c⟩ t).v, .int .i64 1]) ∧ _
        unfold wrongT ThT.v
        simp only
        have q2 := hide (fun a b w => l15Lesser_any a b w)
        by_cases k2 : a < 2
        · rw [if_pos k2]
          have k3 : a + 1 < 3 := by omega
          have k4 : a + 1 ≤ 1000000 := by omega
          go_enter Try.func12, Try.ntmps12
          go_wp2_with (go_at_call 17; refine (unhide q2 _ _ _).mono ?_; rintro e w' ⟨rfl, rfl⟩)
          exact bodyPost_ret (v := .tuple #[.agg #[.int .i64 (a + 1), .int .i64 0, .int .i64 t], .int .i64 1]) (by simp [results, Try.results12, go_sem]) rfl ⟨rfl, by repeat (first | exact Below.refl _ _ | refine bAl ?_ _)⟩
        · rw [if_neg k2]
          by_cases k3 : a < 1000000
          · rw [if_pos k3]
            have q3 : Hid (∀ w, Calls Try.prog 18 #[.int .i64 (if a + 1 - 3 ≤ 20 then a + 1 - 3 else 20)] w fun e w' => e = .returned (.int .i64 (pw (min (a - 2).toNat 20))) ∧ w = w') := hide (fun w => by
              have e1 : min (a - 2).toNat 20 = (if a + 1 - 3 ≤ 20 then a + 1 - 3 else 20).toNat := by split <;> omega
              rw [e1]
              exact l1Pow2_any _ w (by split <;> omega) (by split <;> omega))
            have qA := hide (fun w => l15Lesser_any (a + 1) 1000000 w)
            rw [if_pos (by omega)] at qA
            have qB := hide (fun w => l15Lesser_any (a + 1 - 3) 20 w)
            clear q2
            have q4 := hide (fun w => l15Lesser_any 3600 (10 * pw (min (a - 2).toNat 20)) w)
            rw [lck_spec] at q4
            have hk := lck_le (a - 2).toNat
            have hp1 := pw_pos (min (a - 2).toNat 20)
            have hp2 := pw_le (k := min (a - 2).toNat 20) (by omega)
            generalize pw (min (a - 2).toNat 20) = P at *
            generalize lck (a - 2).toNat = L at *
            generalize (if a + 1 - 3 ≤ 20 then a + 1 - 3 else 20) = X at *
            obtain ⟨l0, l1⟩ := hk
            have k4 : a + 1 ≤ 1000000 := by omega
            have k5 : ¬ a + 1 < 3 := by omega
            go_enter Try.func12, Try.ntmps12
            go_wp2_with (first
              | (go_at_call 17; (first | with_reducible refine (unhide qA _).mono ?_ | with_reducible refine (unhide qB _).mono ?_ | with_reducible refine (unhide q4 _).mono ?_); rintro e w' ⟨rfl, rfl⟩)
              | (go_at_call 18; refine (unhide q3 _).mono ?_; rintro e w' ⟨rfl, rfl⟩))
            exact bodyPost_ret (v := .tuple #[.agg #[.int .i64 (a + 1), .int .i64 (t + L), .int .i64 t], .int .i64 1]) (by simp [results, Try.results12, go_sem]) rfl ⟨rfl, by repeat (first | exact Below.refl _ _ | refine bAl ?_ _)⟩
          · rw [if_neg k3]
            obtain rfl : a = 1000000 := by omega
            have qA : Hid (∀ w, Calls Try.prog 17 #[.int .i64 1000001, .int .i64 1000000] w fun e w' => e = .returned (.int .i64 1000000) ∧ w = w') := hide (fun w => l15Lesser_any 1000001 1000000 w)
            have qB : Hid (∀ w, Calls Try.prog 17 #[.int .i64 999997, .int .i64 20] w fun e w' => e = .returned (.int .i64 20) ∧ w = w') := hide (fun w => l15Lesser_any 999997 20 w)
            have q3 : Hid (∀ w, Calls Try.prog 18 #[.int .i64 20] w fun e w' => e = .returned (.int .i64 1048576) ∧ w = w') := hide (fun w => l1Pow2_any 20 w (by omega) (by omega))
            have q4 : Hid (∀ w, Calls Try.prog 17 #[.int .i64 3600, .int .i64 10485760] w fun e w' => e = .returned (.int .i64 3600) ∧ w = w') := hide (fun w => l15Lesser_any 3600 10485760 w)
            clear q2
            go_enter Try.func12, Try.ntmps12
            go_wp2_with (first
              | (go_at_call 17; (first | with_reducible refine (unhide qA _).mono ?_ | with_reducible refine (unhide qB _).mono ?_ | with_reducible refine (unhide q4 _).mono ?_); rintro e w' ⟨rfl, rfl⟩)
              | (go_at_call 18; refine (unhide q3 _).mono ?_; rintro e w' ⟨rfl, rfl⟩))
            exact bodyPost_ret (v := .tuple #[.agg #[.int .i64 1000000, .int .i64 (t + 3600), .int .i64 t], .int .i64 1]) (by simp [results, Try.results12, go_sem]) rfl ⟨rfl, by repeat (first | exact Below.refl _ _ | refine bAl ?_ _)⟩
      · unfold ThT.v
        go_enter Try.func12, Try.ntmps12
        go_wp2_with fail
        exact bodyPost_ret (v := .tuple #[.agg #[.int .i64 0, .int .i64 0, .int .i64 t], .int .i64 0]) (by simp [results, Try.results12, go_sem]) rfl ⟨rfl, by repeat (first | exact Below.refl _ _ | refine bAl ?_ _)⟩
  · have e : tryT x t r = (⟨0, 0, 0⟩, -1) := by unfold tryT; rw [if_neg hG]
    rw [e]; clear e
    obtain ⟨a, b, c⟩ := x
    have hn : a < 0 ∨ 1000000 < a ∨ b < 0 ∨ 100000003600 < b ∨ c < 0 ∨ 100000003600 < c ∨ t < c ∨ 100000000000 < t := by
      unfold ThT.Good at hG; simp only at hG; omega
    clear hG
    unfold ThT.v
    go_enter Try.func12, Try.ntmps12
    go_wp2_with fail
    all_goals exact bodyPost_ret (v := .tuple #[.agg #[.int .i64 0, .int .i64 0, .int .i64 0], .int .i64 (-1)]) (by simp [results, Try.results12, go_sem]) rfl ⟨rfl, by repeat (first | exact Below.refl _ _ | refine bAl ?_ _)⟩
end Go.Proofs.Ytgdpbdgbkeghlaa
