/- DrawCheckTimed. -/
import Derived.Test.YtinbmibfflebcaaDoorKCd
namespace Go.Proofs.YtinbmibfflebcaaDoor.D
set_option maxRecDepth 20000
open Go.RowKit

set_option maxHeartbeats 8000000 in
theorem drawCheckTimed_any (a : Option Addr) (len cap : Nat) (w : World) (hc : CodeAt w w.heap.size a len) :
    Calls Tryd.prog 8 #[.slice a len cap] w fun e w' => ∃ (a' : Option Addr) (ln cap' : Nat) (D : List UInt8) (n p d : Int) (t : ByteArray), ln ≤ 7 ∧ (-4 ≤ n ∧ n ≤ 1000000000001) ∧ (-10 ≤ p ∧ p ≤ 1000) ∧ e = .returned (.tuple #[.slice a' ln cap', .int .i64 n, .int .i64 p, .int .i64 d, .string t]) ∧ SlB w' w'.heap.size a' ln D ∧ Below w.heap.size w w' := by
  have RA := hide (RowIs.new w #[.slice a len cap, .int .i64 0, .int .u64 0] 32)
  have hA1 := hide (show (w.alloc (.cells #[.slice a len cap, .int .i64 0, .int .u64 0] 32)).heap.size = w.heap.size + 1 by simp)
  have CU := hide (show CurOk (w.alloc (.cells #[.slice a len cap, .int .i64 0, .int .u64 0] 32)) w.heap.size 0 from ⟨a, len, cap, 0, 0, unhide RA, Nat.le_refl _, hc.keep (But.of (bAl (Below.refl _ _) _))⟩)
  have BA := hide ((But.refl w.heap.size w).al (.cells #[.slice a len cap, .int .i64 0, .int .u64 0] 32))
  clear hc
  go_enter Tryd.func8, Tryd.ntmps8
  go_wp2_with fail
  refine (codeSecret_cur w.heap.size 0 _ (by omega) (unhide CU)).mono ?_
  rintro e w1 ⟨⟨v, D, hD, rfl, ho⟩, hc, hb⟩
  obtain ⟨sa, sc, rfl, _⟩ := own_sl ho
  have S1 := hide (show DSt w 200 sa D.length sc D w1 from ⟨own_mono ho (by rw [unhide hA1]; exact Nat.le_refl _), hc.mono (by omega), (unhide BA).trans hb⟩)
  clear hc hb ho RA CU BA hA1
  generalize D.length = ln at hD S1 ⊢
  go_wp2_with fail
  refine (pick_any w.heap.size _ 4000 _ (by omega) (by omega) (by omega) (unhide S1).cur).mono ?_
  rintro e w2 ⟨⟨T, T0, T1, rfl⟩, hc, hb⟩
  have S2 := hide ((unhide S1).step hc hb)
  clear hc hb S1
  go_wp2_with fail
  refine (one_any w.heap.size _ 12 _ (by omega) (by omega) (by omega) (unhide S2).cur).mono ?_
  rintro e w3 ⟨⟨b1, rfl⟩, hc, hb⟩
  have S3 := hide ((unhide S2).step hc hb)
  clear hc hb S2
  cases b1
  · go_wp2_with fail
    refine (pick_any w.heap.size _ 5 _ (by omega) (by omega) (by omega) (unhide S3).cur).mono ?_
    rintro e w4 ⟨⟨r1, r10, r11, rfl⟩, hc, hb⟩
    have S4 := hide ((unhide S3).step hc hb)
    clear hc hb S3
    go_wp2_with fail
    refine (pick_any w.heap.size _ 5 _ (by omega) (by omega) (by omega) (unhide S4).cur).mono ?_
    rintro e w5 ⟨⟨d', d'0, d'1, rfl⟩, hc, hb⟩
    have S5 := hide ((unhide S4).step hc hb)
    clear hc hb S4
    by_cases k0 : 0 ≤ T / 30 - 2 + r1
    · go_wp2_with fail
      refine (l16Code_i _ _ _ _ (T / 30 - 2 + r1) (4 + d') _ (by omega) (by omega) (by omega) (by omega) (by omega) (unhide S5).sl).mono ?_
      rintro e w6 ⟨⟨t, tz, rfl⟩, hb⟩
      have S6 := hide ((unhide S5).keep hb)
      clear hb S5
      go_wp2_with fail
      refine (pick_any w.heap.size _ 4 _ (by omega) (by omega) (by omega) (unhide S6).cur).mono ?_
      rintro e w7 ⟨⟨r4, r40, r41, rfl⟩, hc, hb⟩
      have S7 := hide ((unhide S6).step hc hb)
      clear hc hb S6
      go_wp2_with fail
      refine (one_any w.heap.size _ 20 _ (by omega) (by omega) (by omega) (unhide S7).cur).mono ?_
      rintro e w8 ⟨⟨b2, rfl⟩, hc, hb⟩
      have S8 := hide ((unhide S7).step hc hb)
      clear hc hb S7
      cases b2
      · go_wp2_with fail
        ((try simp only [Exit.inBlock, Exit.then]); refine bodyPost_ret (results_tmp5 rfl _ _ _) rfl ?_)
        exact ⟨_, _, _, D, T, _, _, t, hD, ⟨by omega, by omega⟩, ⟨by omega, by omega⟩, rfl, (unhide S8).sl, (unhide S8).but.below (Nat.le_refl _) (Nat.le_refl _)⟩
      · have RA := hide (RowIs.new w8 #[.int .i64 (-1), .int .i64 100000000000, .int .i64 100000000001] 3)
        have Sa := hide ((unhide S8).al (.cells #[.int .i64 (-1), .int .i64 100000000000, .int .i64 100000000001] 3))
        have gl := (unhide S8).cur.lt
        go_wp2_with fail
        refine (pick_any w.heap.size _ 3 _ (by omega) (by omega) (by omega) (unhide Sa).cur).mono ?_
        rintro e w9 ⟨⟨q, q0, q1, rfl⟩, hc, hb⟩
        obtain ⟨Q, rfl⟩ := Int.eq_ofNat_of_zero_le q0
        have hrow := hb.row (unhide RA) (by omega)
        have S9 := hide ((unhide Sa).step hc hb)
        clear hc hb RA Sa S8 q0
        obtain ⟨T2, T20, T21, hs⟩ : ∃ s : Int, -1 ≤ s ∧ s ≤ 100000000001 ∧ w9.cell? ⟨w8.heap.size, Q, none⟩ = some (.int .i64 s) := by
          have hq : Q = 0 ∨ Q = 1 ∨ Q = 2 := by omega
          rcases hq with rfl | rfl | rfl <;> exact ⟨_, by omega, by omega, hrow.at rfl⟩
        have zq := hrow.lt
        clear hrow
        go_wp2_with fail
        ((try simp only [Exit.inBlock, Exit.then]); refine bodyPost_ret (results_tmp5 rfl _ _ _) rfl ?_)
        exact ⟨_, _, _, D, T2, _, _, t, hD, ⟨by omega, by omega⟩, ⟨by omega, by omega⟩, rfl, (unhide S9).sl, (unhide S9).but.below (Nat.le_refl _) (Nat.le_refl _)⟩
    · go_wp2_with fail
      refine (pick_any w.heap.size _ 4 _ (by omega) (by omega) (by omega) (unhide S5).cur).mono ?_
      rintro e w6 ⟨⟨r4, r40, r41, rfl⟩, hc, hb⟩
      have S6 := hide ((unhide S5).step hc hb)
      clear hc hb S5
      go_wp2_with fail
      refine (one_any w.heap.size _ 20 _ (by omega) (by omega) (by omega) (unhide S6).cur).mono ?_
      rintro e w7 ⟨⟨b2, rfl⟩, hc, hb⟩
      have S7 := hide ((unhide S6).step hc hb)
      clear hc hb S6
      cases b2
      · go_wp2_with fail
        ((try simp only [Exit.inBlock, Exit.then]); refine bodyPost_ret (results_tmp5 rfl _ _ _) rfl ?_)
        exact ⟨_, _, _, D, T, _, _, _, hD, ⟨by omega, by omega⟩, ⟨by omega, by omega⟩, rfl, (unhide S7).sl, (unhide S7).but.below (Nat.le_refl _) (Nat.le_refl _)⟩
      · have RA := hide (RowIs.new w7 #[.int .i64 (-1), .int .i64 100000000000, .int .i64 100000000001] 3)
        have Sa := hide ((unhide S7).al (.cells #[.int .i64 (-1), .int .i64 100000000000, .int .i64 100000000001] 3))
        have gl := (unhide S7).cur.lt
        go_wp2_with fail
        refine (pick_any w.heap.size _ 3 _ (by omega) (by omega) (by omega) (unhide Sa).cur).mono ?_
        rintro e w8 ⟨⟨q, q0, q1, rfl⟩, hc, hb⟩
        obtain ⟨Q, rfl⟩ := Int.eq_ofNat_of_zero_le q0
        have hrow := hb.row (unhide RA) (by omega)
        have S8 := hide ((unhide Sa).step hc hb)
        clear hc hb RA Sa S7 q0
        obtain ⟨T2, T20, T21, hs⟩ : ∃ s : Int, -1 ≤ s ∧ s ≤ 100000000001 ∧ w8.cell? ⟨w7.heap.size, Q, none⟩ = some (.int .i64 s) := by
          have hq : Q = 0 ∨ Q = 1 ∨ Q = 2 := by omega
          rcases hq with rfl | rfl | rfl <;> exact ⟨_, by omega, by omega, hrow.at rfl⟩
        have zq := hrow.lt
        clear hrow
        go_wp2_with fail
        ((try simp only [Exit.inBlock, Exit.then]); refine bodyPost_ret (results_tmp5 rfl _ _ _) rfl ?_)
        exact ⟨_, _, _, D, T2, _, _, _, hD, ⟨by omega, by omega⟩, ⟨by omega, by omega⟩, rfl, (unhide S8).sl, (unhide S8).but.below (Nat.le_refl _) (Nat.le_refl _)⟩
  · go_wp2_with fail
    refine (pick_any w.heap.size _ 70 _ (by omega) (by omega) (by omega) (unhide S3).cur).mono ?_
    rintro e w4 ⟨⟨T1, T10, T11, rfl⟩, hc, hb⟩
    have S4 := hide ((unhide S3).step hc hb)
    clear hc hb S3
    go_wp2_with fail
    refine (pick_any w.heap.size _ 5 _ (by omega) (by omega) (by omega) (unhide S4).cur).mono ?_
    rintro e w5 ⟨⟨r1, r10, r11, rfl⟩, hc, hb⟩
    have S5 := hide ((unhide S4).step hc hb)
    clear hc hb S4
    go_wp2_with fail
    refine (pick_any w.heap.size _ 5 _ (by omega) (by omega) (by omega) (unhide S5).cur).mono ?_
    rintro e w6 ⟨⟨d', d'0, d'1, rfl⟩, hc, hb⟩
    have S6 := hide ((unhide S5).step hc hb)
    clear hc hb S5
    by_cases k0 : 0 ≤ T1 / 30 - 2 + r1
    · go_wp2_with fail
      refine (l16Code_i _ _ _ _ (T1 / 30 - 2 + r1) (4 + d') _ (by omega) (by omega) (by omega) (by omega) (by omega) (unhide S6).sl).mono ?_
      rintro e w7 ⟨⟨t, tz, rfl⟩, hb⟩
      have S7 := hide ((unhide S6).keep hb)
      clear hb S6
      go_wp2_with fail
      refine (pick_any w.heap.size _ 4 _ (by omega) (by omega) (by omega) (unhide S7).cur).mono ?_
      rintro e w8 ⟨⟨r4, r40, r41, rfl⟩, hc, hb⟩
      have S8 := hide ((unhide S7).step hc hb)
      clear hc hb S7
      go_wp2_with fail
      refine (one_any w.heap.size _ 20 _ (by omega) (by omega) (by omega) (unhide S8).cur).mono ?_
      rintro e w9 ⟨⟨b2, rfl⟩, hc, hb⟩
      have S9 := hide ((unhide S8).step hc hb)
      clear hc hb S8
      cases b2
      · go_wp2_with fail
        ((try simp only [Exit.inBlock, Exit.then]); refine bodyPost_ret (results_tmp5 rfl _ _ _) rfl ?_)
        exact ⟨_, _, _, D, T1, _, _, t, hD, ⟨by omega, by omega⟩, ⟨by omega, by omega⟩, rfl, (unhide S9).sl, (unhide S9).but.below (Nat.le_refl _) (Nat.le_refl _)⟩
      · have RA := hide (RowIs.new w9 #[.int .i64 (-1), .int .i64 100000000000, .int .i64 100000000001] 3)
        have Sa := hide ((unhide S9).al (.cells #[.int .i64 (-1), .int .i64 100000000000, .int .i64 100000000001] 3))
        have gl := (unhide S9).cur.lt
        go_wp2_with fail
        refine (pick_any w.heap.size _ 3 _ (by omega) (by omega) (by omega) (unhide Sa).cur).mono ?_
        rintro e w10 ⟨⟨q, q0, q1, rfl⟩, hc, hb⟩
        obtain ⟨Q, rfl⟩ := Int.eq_ofNat_of_zero_le q0
        have hrow := hb.row (unhide RA) (by omega)
        have S10 := hide ((unhide Sa).step hc hb)
        clear hc hb RA Sa S9 q0
        obtain ⟨T2, T20, T21, hs⟩ : ∃ s : Int, -1 ≤ s ∧ s ≤ 100000000001 ∧ w10.cell? ⟨w9.heap.size, Q, none⟩ = some (.int .i64 s) := by
          have hq : Q = 0 ∨ Q = 1 ∨ Q = 2 := by omega
          rcases hq with rfl | rfl | rfl <;> exact ⟨_, by omega, by omega, hrow.at rfl⟩
        have zq := hrow.lt
        clear hrow
        go_wp2_with fail
        ((try simp only [Exit.inBlock, Exit.then]); refine bodyPost_ret (results_tmp5 rfl _ _ _) rfl ?_)
        exact ⟨_, _, _, D, T2, _, _, t, hD, ⟨by omega, by omega⟩, ⟨by omega, by omega⟩, rfl, (unhide S10).sl, (unhide S10).but.below (Nat.le_refl _) (Nat.le_refl _)⟩
    · go_wp2_with fail
      refine (pick_any w.heap.size _ 4 _ (by omega) (by omega) (by omega) (unhide S6).cur).mono ?_
      rintro e w7 ⟨⟨r4, r40, r41, rfl⟩, hc, hb⟩
      have S7 := hide ((unhide S6).step hc hb)
      clear hc hb S6
      go_wp2_with fail
      refine (one_any w.heap.size _ 20 _ (by omega) (by omega) (by omega) (unhide S7).cur).mono ?_
      rintro e w8 ⟨⟨b2, rfl⟩, hc, hb⟩
      have S8 := hide ((unhide S7).step hc hb)
      clear hc hb S7
      cases b2
      · go_wp2_with fail
        ((try simp only [Exit.inBlock, Exit.then]); refine bodyPost_ret (results_tmp5 rfl _ _ _) rfl ?_)
        exact ⟨_, _, _, D, T1, _, _, _, hD, ⟨by omega, by omega⟩, ⟨by omega, by omega⟩, rfl, (unhide S8).sl, (unhide S8).but.below (Nat.le_refl _) (Nat.le_refl _)⟩
      · have RA := hide (RowIs.new w8 #[.int .i64 (-1), .int .i64 100000000000, .int .i64 100000000001] 3)
        have Sa := hide ((unhide S8).al (.cells #[.int .i64 (-1), .int .i64 100000000000, .int .i64 100000000001] 3))
        have gl := (unhide S8).cur.lt
        go_wp2_with fail
        refine (pick_any w.heap.size _ 3 _ (by omega) (by omega) (by omega) (unhide Sa).cur).mono ?_
        rintro e w9 ⟨⟨q, q0, q1, rfl⟩, hc, hb⟩
        obtain ⟨Q, rfl⟩ := Int.eq_ofNat_of_zero_le q0
        have hrow := hb.row (unhide RA) (by omega)
        have S9 := hide ((unhide Sa).step hc hb)
        clear hc hb RA Sa S8 q0
        obtain ⟨T2, T20, T21, hs⟩ : ∃ s : Int, -1 ≤ s ∧ s ≤ 100000000001 ∧ w9.cell? ⟨w8.heap.size, Q, none⟩ = some (.int .i64 s) := by
          have hq : Q = 0 ∨ Q = 1 ∨ Q = 2 := by omega
          rcases hq with rfl | rfl | rfl <;> exact ⟨_, by omega, by omega, hrow.at rfl⟩
        have zq := hrow.lt
        clear hrow
        go_wp2_with fail
        ((try simp only [Exit.inBlock, Exit.then]); refine bodyPost_ret (results_tmp5 rfl _ _ _) rfl ?_)
        exact ⟨_, _, _, D, T2, _, _, _, hD, ⟨by omega, by omega⟩, ⟨by omega, by omega⟩, rfl, (unhide S9).sl, (unhide S9).but.below (Nat.le_refl _) (Nat.le_refl _)⟩
end Go.Proofs.YtinbmibfflebcaaDoor.D
