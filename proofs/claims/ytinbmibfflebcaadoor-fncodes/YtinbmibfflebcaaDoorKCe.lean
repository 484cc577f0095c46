/- DrawCheckCode. -/
import Derived.Test.YtinbmibfflebcaaDoorKCd
namespace Go.Proofs.YtinbmibfflebcaaDoor.D
set_option maxRecDepth 20000
open Go.RowKit

set_option maxHeartbeats 8000000 in
theorem drawCheckCode_any (a : Option Addr) (len cap : Nat) (w : World) (hc : CodeAt w w.heap.size a len) :
    Calls Tryd.prog 4 #[.slice a len cap] w fun e w' => ∃ (a' : Option Addr) (ln cap' : Nat) (D : List UInt8) (n p d : Int) (t : ByteArray), ln ≤ 7 ∧ (-4 ≤ n ∧ n ≤ 1000000000001) ∧ (-10 ≤ p ∧ p ≤ 1000) ∧ e = .returned (.tuple #[.slice a' ln cap', .int .i64 n, .int .i64 p, .int .i64 d, .string t]) ∧ SlB w' w'.heap.size a' ln D ∧ Below w.heap.size w w' := by
  have RA := hide (RowIs.new w #[.slice a len cap, .int .i64 0, .int .u64 0] 32)
  have hA1 := hide (show (w.alloc (.cells #[.slice a len cap, .int .i64 0, .int .u64 0] 32)).heap.size = w.heap.size + 1 by simp)
  have CU := hide (show CurOk (w.alloc (.cells #[.slice a len cap, .int .i64 0, .int .u64 0] 32)) w.heap.size 0 from ⟨a, len, cap, 0, 0, unhide RA, Nat.le_refl _, hc.keep (But.of (bAl (Below.refl _ _) _))⟩)
  have BA := hide ((But.refl w.heap.size w).al (.cells #[.slice a len cap, .int .i64 0, .int .u64 0] 32))
  clear hc
  go_enter Tryd.func4, Tryd.ntmps4
  go_wp2_with fail
  refine (codeSecret_cur w.heap.size 0 _ (by omega) (unhide CU)).mono ?_
  rintro e w1 ⟨⟨v, D, hD, rfl, ho⟩, hc, hb⟩
  obtain ⟨sa, sc, rfl, _⟩ := own_sl ho
  have S1 := hide (show DSt w 200 sa D.length sc D w1 from ⟨own_mono ho (by rw [unhide hA1]; exact Nat.le_refl _), hc.mono (by omega), (unhide BA).trans hb⟩)
  clear hc hb ho RA CU BA hA1
  generalize D.length = ln at hD S1 ⊢
  go_wp2_with fail
  refine (pick_any w.heap.size _ 5000 _ (by omega) (by omega) (by omega) (unhide S1).cur).mono ?_
  rintro e w2 ⟨⟨n, n0, n1, rfl⟩, hc, hb⟩
  have S2 := hide ((unhide S1).step hc hb)
  clear hc hb S1
  go_wp2_with fail
  refine (pick_any w.heap.size _ 8 _ (by omega) (by omega) (by omega) (unhide S2).cur).mono ?_
  rintro e w3 ⟨⟨p, p0, p1, rfl⟩, hc, hb⟩
  have S3 := hide ((unhide S2).step hc hb)
  clear hc hb S2
  go_wp2_with fail
  refine (pick_any w.heap.size _ 5 _ (by omega) (by omega) (by omega) (unhide S3).cur).mono ?_
  rintro e w4 ⟨⟨d', d'0, d'1, rfl⟩, hc, hb⟩
  have S4 := hide ((unhide S3).step hc hb)
  clear hc hb S3
  go_wp2_with fail
  refine (pick_any w.heap.size _ 10 _ (by omega) (by omega) (by omega) (unhide S4).cur).mono ?_
  rintro e w5 ⟨⟨r, r0, r1, rfl⟩, hc, hb⟩
  have S5 := hide ((unhide S4).step hc hb)
  clear hc hb S4
  go_wp2_with fail
  refine (l16Code_i _ _ _ _ (n + r) (4 + d') _ (by omega) (by omega) (by omega) (by omega) (by omega) (unhide S5).sl).mono ?_
  rintro e w6 ⟨⟨t, tz, rfl⟩, hb⟩
  have S6 := hide ((unhide S5).keep hb)
  clear hb S5
  go_wp2_with fail
  refine (one_any w.heap.size _ 4 _ (by omega) (by omega) (by omega) (unhide S6).cur).mono ?_
  rintro e w7 ⟨⟨b1, rfl⟩, hc, hb⟩
  have S7 := hide ((unhide S6).step hc hb)
  clear hc hb S6
  cases b1
  · go_wp2_with fail
    refine (one_any w.heap.size _ 20 _ (by omega) (by omega) (by omega) (unhide S7).cur).mono ?_
    rintro e w8 ⟨⟨b2, rfl⟩, hc, hb⟩
    have S8 := hide ((unhide S7).step hc hb)
    clear hc hb S7
    cases b2
    · go_wp2_with fail
      refine (one_any w.heap.size _ 20 _ (by omega) (by omega) (by omega) (unhide S8).cur).mono ?_
      rintro e w9 ⟨⟨b3, rfl⟩, hc, hb⟩
      have S9 := hide ((unhide S8).step hc hb)
      clear hc hb S8
      cases b3
      · go_wp2_with fail
        ((try simp only [Exit.inBlock, Exit.then]); refine bodyPost_ret (results_tmp5 rfl _ _ _) rfl ?_)
        exact ⟨_, _, _, D, n, p, _, t, hD, ⟨by omega, by omega⟩, ⟨by omega, by omega⟩, rfl, (unhide S9).sl, (unhide S9).but.below (Nat.le_refl _) (Nat.le_refl _)⟩
      · go_wp2_with fail
        refine (pick_any w.heap.size _ 3 _ (by omega) (by omega) (by omega) (unhide S9).cur).mono ?_
        rintro e w10 ⟨⟨r2, r20, r21, rfl⟩, hc, hb⟩
        have S10 := hide ((unhide S9).step hc hb)
        clear hc hb S9
        have RA := hide (RowIs.new w10 #[.int .i64 (1000000000000 - r2), .int .i64 1000000000001, .int .i64 (-3)] 3)
        have Sa := hide ((unhide S10).al (.cells #[.int .i64 (1000000000000 - r2), .int .i64 1000000000001, .int .i64 (-3)] 3))
        have gl := (unhide S10).cur.lt
        go_wp2_with fail
        refine (pick_any w.heap.size _ 3 _ (by omega) (by omega) (by omega) (unhide Sa).cur).mono ?_
        rintro e w11 ⟨⟨q, q0, q1, rfl⟩, hc, hb⟩
        obtain ⟨Q, rfl⟩ := Int.eq_ofNat_of_zero_le q0
        have hrow := hb.row (unhide RA) (by omega)
        have S11 := hide ((unhide Sa).step hc hb)
        clear hc hb RA Sa S10 q0
        have zq := hrow.lt
        have hq : Q = 0 ∨ Q = 1 ∨ Q = 2 := by omega
        rcases hq with rfl | rfl | rfl
        · have hs : w11.cell? ⟨w10.heap.size, 0, none⟩ = some (.int .i64 (1000000000000 - r2)) := hrow.at rfl
          clear hrow
          go_wp2_with fail
          refine (l16Code_i _ _ _ _ _ (4 + d') _ (by omega) (by omega) (by omega) (by omega) (by omega) (unhide S11).sl).mono ?_
          rintro e w12 ⟨⟨t3, t3z, rfl⟩, hb⟩
          have S12 := hide ((unhide S11).keep hb)
          clear hb S11
          go_wp2_with fail
          ((try simp only [Exit.inBlock, Exit.then]); refine bodyPost_ret (results_tmp5 rfl _ _ _) rfl ?_)
          exact ⟨_, _, _, D, (1000000000000 - r2), p, _, t3, hD, ⟨by omega, by omega⟩, ⟨by omega, by omega⟩, rfl, (unhide S12).sl, (unhide S12).but.below (Nat.le_refl _) (Nat.le_refl _)⟩
        · have hs : w11.cell? ⟨w10.heap.size, 1, none⟩ = some (.int .i64 1000000000001) := hrow.at rfl
          clear hrow
          go_wp2_with fail
          refine (l16Code_i _ _ _ _ _ (4 + d') _ (by omega) (by omega) (by omega) (by omega) (by omega) (unhide S11).sl).mono ?_
          rintro e w12 ⟨⟨t3, t3z, rfl⟩, hb⟩
          have S12 := hide ((unhide S11).keep hb)
          clear hb S11
          go_wp2_with fail
          ((try simp only [Exit.inBlock, Exit.then]); refine bodyPost_ret (results_tmp5 rfl _ _ _) rfl ?_)
          exact ⟨_, _, _, D, 1000000000001, p, _, t3, hD, ⟨by omega, by omega⟩, ⟨by omega, by omega⟩, rfl, (unhide S12).sl, (unhide S12).but.below (Nat.le_refl _) (Nat.le_refl _)⟩
        · have hs : w11.cell? ⟨w10.heap.size, 2, none⟩ = some (.int .i64 (-3)) := hrow.at rfl
          clear hrow
          go_wp2_with fail
          refine (l16Code_i _ _ _ _ _ (4 + d') _ (by omega) (by omega) (by omega) (by omega) (by omega) (unhide S11).sl).mono ?_
          rintro e w12 ⟨⟨t3, t3z, rfl⟩, hb⟩
          have S12 := hide ((unhide S11).keep hb)
          clear hb S11
          go_wp2_with fail
          refine (pick_any w.heap.size _ 3 _ (by omega) (by omega) (by omega) (unhide S12).cur).mono ?_
          rintro e w13 ⟨⟨r3, r30, r31, rfl⟩, hc, hb⟩
          have S13 := hide ((unhide S12).step hc hb)
          clear hc hb S12
          go_wp2_with fail
          refine (l16Code_i _ _ _ _ _ (4 + d') _ (by omega) (by omega) (by omega) (by omega) (by omega) (unhide S13).sl).mono ?_
          rintro e w14 ⟨⟨t4, t4z, rfl⟩, hb⟩
          have S14 := hide ((unhide S13).keep hb)
          clear hb S13
          go_wp2_with fail
          ((try simp only [Exit.inBlock, Exit.then]); refine bodyPost_ret (results_tmp5 rfl _ _ _) rfl ?_)
          exact ⟨_, _, _, D, (-3), p, _, t4, hD, ⟨by omega, by omega⟩, ⟨by omega, by omega⟩, rfl, (unhide S14).sl, (unhide S14).but.below (Nat.le_refl _) (Nat.le_refl _)⟩
    · have RA := hide (RowIs.new w8 #[.int .i64 (-1), .int .i64 50, .int .i64 51] 3)
      have Sa := hide ((unhide S8).al (.cells #[.int .i64 (-1), .int .i64 50, .int .i64 51] 3))
      have gl := (unhide S8).cur.lt
      go_wp2_with fail
      refine (pick_any w.heap.size _ 3 _ (by omega) (by omega) (by omega) (unhide Sa).cur).mono ?_
      rintro e w9 ⟨⟨q, q0, q1, rfl⟩, hc, hb⟩
      obtain ⟨Q, rfl⟩ := Int.eq_ofNat_of_zero_le q0
      have hrow := hb.row (unhide RA) (by omega)
      have S9 := hide ((unhide Sa).step hc hb)
      clear hc hb RA Sa S8 q0
      obtain ⟨p2, p20, p21, hs⟩ : ∃ s : Int, -1 ≤ s ∧ s ≤ 51 ∧ w9.cell? ⟨w8.heap.size, Q, none⟩ = some (.int .i64 s) := by
        have hq : Q = 0 ∨ Q = 1 ∨ Q = 2 := by omega
        rcases hq with rfl | rfl | rfl <;> exact ⟨_, by omega, by omega, hrow.at rfl⟩
      have zq := hrow.lt
      clear hrow
      go_wp2_with fail
      refine (one_any w.heap.size _ 20 _ (by omega) (by omega) (by omega) (unhide S9).cur).mono ?_
      rintro e w10 ⟨⟨b3, rfl⟩, hc, hb⟩
      have S10 := hide ((unhide S9).step hc hb)
      clear hc hb S9
      cases b3
      · go_wp2_with fail
        ((try simp only [Exit.inBlock, Exit.then]); refine bodyPost_ret (results_tmp5 rfl _ _ _) rfl ?_)
        exact ⟨_, _, _, D, n, p2, _, t, hD, ⟨by omega, by omega⟩, ⟨by omega, by omega⟩, rfl, (unhide S10).sl, (unhide S10).but.below (Nat.le_refl _) (Nat.le_refl _)⟩
      · go_wp2_with fail
        refine (pick_any w.heap.size _ 3 _ (by omega) (by omega) (by omega) (unhide S10).cur).mono ?_
        rintro e w11 ⟨⟨r2, r20, r21, rfl⟩, hc, hb⟩
        have S11 := hide ((unhide S10).step hc hb)
        clear hc hb S10
        have RA := hide (RowIs.new w11 #[.int .i64 (1000000000000 - r2), .int .i64 1000000000001, .int .i64 (-3)] 3)
        have Sa := hide ((unhide S11).al (.cells #[.int .i64 (1000000000000 - r2), .int .i64 1000000000001, .int .i64 (-3)] 3))
        have gl := (unhide S11).cur.lt
        go_wp2_with fail
        refine (pick_any w.heap.size _ 3 _ (by omega) (by omega) (by omega) (unhide Sa).cur).mono ?_
        rintro e w12 ⟨⟨q, q0, q1, rfl⟩, hc, hb⟩
        obtain ⟨Q, rfl⟩ := Int.eq_ofNat_of_zero_le q0
        have hrow := hb.row (unhide RA) (by omega)
        have S12 := hide ((unhide Sa).step hc hb)
        clear hc hb RA Sa S11 q0
        have zq := hrow.lt
        have hq : Q = 0 ∨ Q = 1 ∨ Q = 2 := by omega
        rcases hq with rfl | rfl | rfl
        · have hs : w12.cell? ⟨w11.heap.size, 0, none⟩ = some (.int .i64 (1000000000000 - r2)) := hrow.at rfl
          clear hrow
          go_wp2_with fail
          refine (l16Code_i _ _ _ _ _ (4 + d') _ (by omega) (by omega) (by omega) (by omega) (by omega) (unhide S12).sl).mono ?_
          rintro e w13 ⟨⟨t3, t3z, rfl⟩, hb⟩
          have S13 := hide ((unhide S12).keep hb)
          clear hb S12
          go_wp2_with fail
          ((try simp only [Exit.inBlock, Exit.then]); refine bodyPost_ret (results_tmp5 rfl _ _ _) rfl ?_)
          exact ⟨_, _, _, D, (1000000000000 - r2), p2, _, t3, hD, ⟨by omega, by omega⟩, ⟨by omega, by omega⟩, rfl, (unhide S13).sl, (unhide S13).but.below (Nat.le_refl _) (Nat.le_refl _)⟩
        · have hs : w12.cell? ⟨w11.heap.size, 1, none⟩ = some (.int .i64 1000000000001) := hrow.at rfl
          clear hrow
          go_wp2_with fail
          refine (l16Code_i _ _ _ _ _ (4 + d') _ (by omega) (by omega) (by omega) (by omega) (by omega) (unhide S12).sl).mono ?_
          rintro e w13 ⟨⟨t3, t3z, rfl⟩, hb⟩
          have S13 := hide ((unhide S12).keep hb)
          clear hb S12
          go_wp2_with fail
          ((try simp only [Exit.inBlock, Exit.then]); refine bodyPost_ret (results_tmp5 rfl _ _ _) rfl ?_)
          exact ⟨_, _, _, D, 1000000000001, p2, _, t3, hD, ⟨by omega, by omega⟩, ⟨by omega, by omega⟩, rfl, (unhide S13).sl, (unhide S13).but.below (Nat.le_refl _) (Nat.le_refl _)⟩
        · have hs : w12.cell? ⟨w11.heap.size, 2, none⟩ = some (.int .i64 (-3)) := hrow.at rfl
          clear hrow
          go_wp2_with fail
          refine (l16Code_i _ _ _ _ _ (4 + d') _ (by omega) (by omega) (by omega) (by omega) (by omega) (unhide S12).sl).mono ?_
          rintro e w13 ⟨⟨t3, t3z, rfl⟩, hb⟩
          have S13 := hide ((unhide S12).keep hb)
          clear hb S12
          go_wp2_with fail
          refine (pick_any w.heap.size _ 3 _ (by omega) (by omega) (by omega) (unhide S13).cur).mono ?_
          rintro e w14 ⟨⟨r3, r30, r31, rfl⟩, hc, hb⟩
          have S14 := hide ((unhide S13).step hc hb)
          clear hc hb S13
          go_wp2_with fail
          refine (l16Code_i _ _ _ _ _ (4 + d') _ (by omega) (by omega) (by omega) (by omega) (by omega) (unhide S14).sl).mono ?_
          rintro e w15 ⟨⟨t4, t4z, rfl⟩, hb⟩
          have S15 := hide ((unhide S14).keep hb)
          clear hb S14
          go_wp2_with fail
          ((try simp only [Exit.inBlock, Exit.then]); refine bodyPost_ret (results_tmp5 rfl _ _ _) rfl ?_)
          exact ⟨_, _, _, D, (-3), p2, _, t4, hD, ⟨by omega, by omega⟩, ⟨by omega, by omega⟩, rfl, (unhide S15).sl, (unhide S15).but.below (Nat.le_refl _) (Nat.le_refl _)⟩
  · go_wp2_with fail
    refine (spoilt_cur w.heap.size _ t _ _ (by omega) (by omega) (by decide) (by decide) (unhide S7).cur).mono ?_
    rintro e w8 ⟨⟨t2, _, rfl⟩, hc, hb⟩
    have S8 := hide ((unhide S7).step hc hb)
    clear hc hb S7
    go_wp2_with fail
    refine (one_any w.heap.size _ 20 _ (by omega) (by omega) (by omega) (unhide S8).cur).mono ?_
    rintro e w9 ⟨⟨b2, rfl⟩, hc, hb⟩
    have S9 := hide ((unhide S8).step hc hb)
    clear hc hb S8
    cases b2
    · go_wp2_with fail
      refine (one_any w.heap.size _ 20 _ (by omega) (by omega) (by omega) (unhide S9).cur).mono ?_
      rintro e w10 ⟨⟨b3, rfl⟩, hc, hb⟩
      have S10 := hide ((unhide S9).step hc hb)
      clear hc hb S9
      cases b3
      · go_wp2_with fail
        ((try simp only [Exit.inBlock, Exit.then]); refine bodyPost_ret (results_tmp5 rfl _ _ _) rfl ?_)
        exact ⟨_, _, _, D, n, p, _, t2, hD, ⟨by omega, by omega⟩, ⟨by omega, by omega⟩, rfl, (unhide S10).sl, (unhide S10).but.below (Nat.le_refl _) (Nat.le_refl _)⟩
      · go_wp2_with fail
        refine (pick_any w.heap.size _ 3 _ (by omega) (by omega) (by omega) (unhide S10).cur).mono ?_
        rintro e w11 ⟨⟨r2, r20, r21, rfl⟩, hc, hb⟩
        have S11 := hide ((unhide S10).step hc hb)
        clear hc hb S10
        have RA := hide (RowIs.new w11 #[.int .i64 (1000000000000 - r2), .int .i64 1000000000001, .int .i64 (-3)] 3)
        have Sa := hide ((unhide S11).al (.cells #[.int .i64 (1000000000000 - r2), .int .i64 1000000000001, .int .i64 (-3)] 3))
        have gl := (unhide S11).cur.lt
        go_wp2_with fail
        refine (pick_any w.heap.size _ 3 _ (by omega) (by omega) (by omega) (unhide Sa).cur).mono ?_
        rintro e w12 ⟨⟨q, q0, q1, rfl⟩, hc, hb⟩
        obtain ⟨Q, rfl⟩ := Int.eq_ofNat_of_zero_le q0
        have hrow := hb.row (unhide RA) (by omega)
        have S12 := hide ((unhide Sa).step hc hb)
        clear hc hb RA Sa S11 q0
        have zq := hrow.lt
        have hq : Q = 0 ∨ Q = 1 ∨ Q = 2 := by omega
        rcases hq with rfl | rfl | rfl
        · have hs : w12.cell? ⟨w11.heap.size, 0, none⟩ = some (.int .i64 (1000000000000 - r2)) := hrow.at rfl
          clear hrow
          go_wp2_with fail
          refine (l16Code_i _ _ _ _ _ (4 + d') _ (by omega) (by omega) (by omega) (by omega) (by omega) (unhide S12).sl).mono ?_
          rintro e w13 ⟨⟨t3, t3z, rfl⟩, hb⟩
          have S13 := hide ((unhide S12).keep hb)
          clear hb S12
          go_wp2_with fail
          ((try simp only [Exit.inBlock, Exit.then]); refine bodyPost_ret (results_tmp5 rfl _ _ _) rfl ?_)
          exact ⟨_, _, _, D, (1000000000000 - r2), p, _, t3, hD, ⟨by omega, by omega⟩, ⟨by omega, by omega⟩, rfl, (unhide S13).sl, (unhide S13).but.below (Nat.le_refl _) (Nat.le_refl _)⟩
        · have hs : w12.cell? ⟨w11.heap.size, 1, none⟩ = some (.int .i64 1000000000001) := hrow.at rfl
          clear hrow
          go_wp2_with fail
          refine (l16Code_i _ _ _ _ _ (4 + d') _ (by omega) (by omega) (by omega) (by omega) (by omega) (unhide S12).sl).mono ?_
          rintro e w13 ⟨⟨t3, t3z, rfl⟩, hb⟩
          have S13 := hide ((unhide S12).keep hb)
          clear hb S12
          go_wp2_with fail
          ((try simp only [Exit.inBlock, Exit.then]); refine bodyPost_ret (results_tmp5 rfl _ _ _) rfl ?_)
          exact ⟨_, _, _, D, 1000000000001, p, _, t3, hD, ⟨by omega, by omega⟩, ⟨by omega, by omega⟩, rfl, (unhide S13).sl, (unhide S13).but.below (Nat.le_refl _) (Nat.le_refl _)⟩
        · have hs : w12.cell? ⟨w11.heap.size, 2, none⟩ = some (.int .i64 (-3)) := hrow.at rfl
          clear hrow
          go_wp2_with fail
          refine (l16Code_i _ _ _ _ _ (4 + d') _ (by omega) (by omega) (by omega) (by omega) (by omega) (unhide S12).sl).mono ?_
          rintro e w13 ⟨⟨t3, t3z, rfl⟩, hb⟩
          have S13 := hide ((unhide S12).keep hb)
          clear hb S12
          go_wp2_with fail
          refine (pick_any w.heap.size _ 3 _ (by omega) (by omega) (by omega) (unhide S13).cur).mono ?_
          rintro e w14 ⟨⟨r3, r30, r31, rfl⟩, hc, hb⟩
          have S14 := hide ((unhide S13).step hc hb)
          clear hc hb S13
          go_wp2_with fail
          refine (l16Code_i _ _ _ _ _ (4 + d') _ (by omega) (by omega) (by omega) (by omega) (by omega) (unhide S14).sl).mono ?_
          rintro e w15 ⟨⟨t4, t4z, rfl⟩, hb⟩
          have S15 := hide ((unhide S14).keep hb)
          clear hb S14
          go_wp2_with fail
          ((try simp only [Exit.inBlock, Exit.then]); refine bodyPost_ret (results_tmp5 rfl _ _ _) rfl ?_)
          exact ⟨_, _, _, D, (-3), p, _, t4, hD, ⟨by omega, by omega⟩, ⟨by omega, by omega⟩, rfl, (unhide S15).sl, (unhide S15).but.below (Nat.le_refl _) (Nat.le_refl _)⟩
    · have RA := hide (RowIs.new w9 #[.int .i64 (-1), .int .i64 50, .int .i64 51] 3)
      have Sa := hide ((unhide S9).al (.cells #[.int .i64 (-1), .int .i64 50, .int .i64 51] 3))
      have gl := (unhide S9).cur.lt
      go_wp2_with fail
      refine (pick_any w.heap.size _ 3 _ (by omega) (by omega) (by omega) (unhide Sa).cur).mono ?_
      rintro e w10 ⟨⟨q, q0, q1, rfl⟩, hc, hb⟩
      obtain ⟨Q, rfl⟩ := Int.eq_ofNat_of_zero_le q0
      have hrow := hb.row (unhide RA) (by omega)
      have S10 := hide ((unhide Sa).step hc hb)
      clear hc hb RA Sa S9 q0
      obtain ⟨p2, p20, p21, hs⟩ : ∃ s : Int, -1 ≤ s ∧ s ≤ 51 ∧ w10.cell? ⟨w9.heap.size, Q, none⟩ = some (.int .i64 s) := by
        have hq : Q = 0 ∨ Q = 1 ∨ Q = 2 := by omega
        rcases hq with rfl | rfl | rfl <;> exact ⟨_, by omega, by omega, hrow.at rfl⟩
      have zq := hrow.lt
      clear hrow
      go_wp2_with fail
      refine (one_any w.heap.size _ 20 _ (by omega) (by omega) (by omega) (unhide S10).cur).mono ?_
      rintro e w11 ⟨⟨b3, rfl⟩, hc, hb⟩
      have S11 := hide ((unhide S10).step hc hb)
      clear hc hb S10
      cases b3
      · go_wp2_with fail
        ((try simp only [Exit.inBlock, Exit.then]); refine bodyPost_ret (results_tmp5 rfl _ _ _) rfl ?_)
        exact ⟨_, _, _, D, n, p2, _, t2, hD, ⟨by omega, by omega⟩, ⟨by omega, by omega⟩, rfl, (unhide S11).sl, (unhide S11).but.below (Nat.le_refl _) (Nat.le_refl _)⟩
      · go_wp2_with fail
        refine (pick_any w.heap.size _ 3 _ (by omega) (by omega) (by omega) (unhide S11).cur).mono ?_
        rintro e w12 ⟨⟨r2, r20, r21, rfl⟩, hc, hb⟩
        have S12 := hide ((unhide S11).step hc hb)
        clear hc hb S11
        have RA := hide (RowIs.new w12 #[.int .i64 (1000000000000 - r2), .int .i64 1000000000001, .int .i64 (-3)] 3)
        have Sa := hide ((unhide S12).al (.cells #[.int .i64 (1000000000000 - r2), .int .i64 1000000000001, .int .i64 (-3)] 3))
        have gl := (unhide S12).cur.lt
        go_wp2_with fail
        refine (pick_any w.heap.size _ 3 _ (by omega) (by omega) (by omega) (unhide Sa).cur).mono ?_
        rintro e w13 ⟨⟨q, q0, q1, rfl⟩, hc, hb⟩
        obtain ⟨Q, rfl⟩ := Int.eq_ofNat_of_zero_le q0
        have hrow := hb.row (unhide RA) (by omega)
        have S13 := hide ((unhide Sa).step hc hb)
        clear hc hb RA Sa S12 q0
        have zq := hrow.lt
        have hq : Q = 0 ∨ Q = 1 ∨ Q = 2 := by omega
        rcases hq with rfl | rfl | rfl
        · have hs : w13.cell? ⟨w12.heap.size, 0, none⟩ = some (.int .i64 (1000000000000 - r2)) := hrow.at rfl
          clear hrow
          go_wp2_with fail
          refine (l16Code_i _ _ _ _ _ (4 + d') _ (by omega) (by omega) (by omega) (by omega) (by omega) (unhide S13).sl).mono ?_
          rintro e w14 ⟨⟨t3, t3z, rfl⟩, hb⟩
          have S14 := hide ((unhide S13).keep hb)
          clear hb S13
          go_wp2_with fail
          ((try simp only [Exit.inBlock, Exit.then]); refine bodyPost_ret (results_tmp5 rfl _ _ _) rfl ?_)
          exact ⟨_, _, _, D, (1000000000000 - r2), p2, _, t3, hD, ⟨by omega, by omega⟩, ⟨by omega, by omega⟩, rfl, (unhide S14).sl, (unhide S14).but.below (Nat.le_refl _) (Nat.le_refl _)⟩
        · have hs : w13.cell? ⟨w12.heap.size, 1, none⟩ = some (.int .i64 1000000000001) := hrow.at rfl
          clear hrow
          go_wp2_with fail
          refine (l16Code_i _ _ _ _ _ (4 + d') _ (by omega) (by omega) (by omega) (by omega) (by omega) (unhide S13).sl).mono ?_
          rintro e w14 ⟨⟨t3, t3z, rfl⟩, hb⟩
          have S14 := hide ((unhide S13).keep hb)
          clear hb S13
          go_wp2_with fail
          ((try simp only [Exit.inBlock, Exit.then]); refine bodyPost_ret (results_tmp5 rfl _ _ _) rfl ?_)
          exact ⟨_, _, _, D, 1000000000001, p2, _, t3, hD, ⟨by omega, by omega⟩, ⟨by omega, by omega⟩, rfl, (unhide S14).sl, (unhide S14).but.below (Nat.le_refl _) (Nat.le_refl _)⟩
        · have hs : w13.cell? ⟨w12.heap.size, 2, none⟩ = some (.int .i64 (-3)) := hrow.at rfl
          clear hrow
          go_wp2_with fail
          refine (l16Code_i _ _ _ _ _ (4 + d') _ (by omega) (by omega) (by omega) (by omega) (by omega) (unhide S13).sl).mono ?_
          rintro e w14 ⟨⟨t3, t3z, rfl⟩, hb⟩
          have S14 := hide ((unhide S13).keep hb)
          clear hb S13
          go_wp2_with fail
          refine (pick_any w.heap.size _ 3 _ (by omega) (by omega) (by omega) (unhide S14).cur).mono ?_
          rintro e w15 ⟨⟨r3, r30, r31, rfl⟩, hc, hb⟩
          have S15 := hide ((unhide S14).step hc hb)
          clear hc hb S14
          go_wp2_with fail
          refine (l16Code_i _ _ _ _ _ (4 + d') _ (by omega) (by omega) (by omega) (by omega) (by omega) (unhide S15).sl).mono ?_
          rintro e w16 ⟨⟨t4, t4z, rfl⟩, hb⟩
          have S16 := hide ((unhide S15).keep hb)
          clear hb S15
          go_wp2_with fail
          ((try simp only [Exit.inBlock, Exit.then]); refine bodyPost_ret (results_tmp5 rfl _ _ _) rfl ?_)
          exact ⟨_, _, _, D, (-3), p2, _, t4, hD, ⟨by omega, by omega⟩, ⟨by omega, by omega⟩, rfl, (unhide S16).sl, (unhide S16).but.below (Nat.le_refl _) (Nat.le_refl _)⟩
end Go.Proofs.YtinbmibfflebcaaDoor.D
