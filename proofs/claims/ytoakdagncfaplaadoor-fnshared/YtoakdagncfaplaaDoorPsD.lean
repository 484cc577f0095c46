/- spec.DrawSplit. -/
import Derived.Test.YtoakdagncfaplaaDoorDDrwS
import Derived.Deep.Cut
import Derived.Deep.CutBlock
namespace Go.Proofs.YtoakdagncfaplaaDoor.D
set_option maxRecDepth 20000
open Go.RowKit

set_option maxHeartbeats 1000000 in
theorem drawSplit_any (a : Option Addr) (len cap : Nat) (w : World) (hc : CodeAt w w.heap.size a len) :
    Calls Tryd.prog 4 #[.slice a len cap] w fun e w' => ∃ (s many need : Int) (v : Value) (D : List UInt8), D.length ≤ 30000 ∧ e = .returned (.tuple #[.int .i64 s, .int .i64 many, .int .i64 need, v]) ∧ w'.ownsRow (w.heap.size + 1) 5 1 v D.length (D.map byteV) ∧ Below w.heap.size w w' := by
  have RA := hide (RowIs.new w #[.slice a len cap, .int .i64 0, .int .u64 0] 35)
  have hA1 := hide (show (w.alloc (.cells #[.slice a len cap, .int .i64 0, .int .u64 0] 35)).heap.size = w.heap.size + 1 by simp)
  have CU := hide (show CurOk (w.alloc (.cells #[.slice a len cap, .int .i64 0, .int .u64 0] 35)) w.heap.size 0 from ⟨a, len, cap, 0, 0, unhide RA, Nat.le_refl _, hc.keep (But.of (bAl (Below.refl _ _) _))⟩)
  have BA := hide ((But.refl w.heap.size w).al (.cells #[.slice a len cap, .int .i64 0, .int .u64 0] 35))
  clear hc RA
  go_enter Tryd.func4, Tryd.ntmps4
  go_wp2_with fail
  refine (secret_cur w.heap.size 0 _ (by omega) (unhide CU)).mono ?_
  rintro e w1 ⟨⟨s, s0, s1, rfl⟩, hc1, hb1⟩
  have HC1 := hide hc1
  have B1 := hide ((unhide BA).trans hb1)
  have z1 := hb1.size
  rw [unhide hA1] at z1
  clear hc1 hb1 CU BA
  go_wp2_with fail
  refine (pick_any w.heap.size 10 5 _ (by omega) (by omega) (by omega) (unhide HC1)).mono ?_
  rintro e w2 ⟨⟨p, p0, p1, rfl⟩, hc2, hb2⟩
  have HC2 := hide hc2
  have B2 := hide ((unhide B1).trans hb2)
  have z2 := hb2.size
  clear hc2 hb2 HC1 B1
  go_wp2_with fail
  refine (pick_any w.heap.size 12 5 _ (by omega) (by omega) (by omega) (unhide HC2)).mono ?_
  rintro e w3 ⟨⟨q, q0, q1, rfl⟩, hc3, hb3⟩
  have HC3 := hide hc3
  have B3 := hide ((unhide B2).trans hb3)
  have z3 := hb3.size
  clear hc3 hb3 HC2 B2
  go_wp2_with fail
  refine (one_any w.heap.size 14 12 _ (by omega) (by omega) (by omega) (unhide HC3)).mono ?_
  rintro e w4 ⟨⟨t, rfl⟩, hc4, hb4⟩
  have HC4 := hide hc4
  have B4 := hide ((unhide B3).trans hb4)
  have z4 := hb4.size
  clear hc4 hb4 HC3 B3
  have zz : w.heap.size + 1 ≤ w4.heap.size := by omega
  clear z1 z2 z3 z4
  go_upto_if 23 with fail
  go_cut [9] from 22 (fun m wx => ∃ M : Int, m = .int .i64 M ∧ 0 ≤ M ∧ M ≤ 100 ∧ Hid (CurOk wx w.heap.size 18) ∧ Hid (But w.heap.size w wx) ∧ w4.heap.size ≤ wx.heap.size)
  case first =>
    cases t
    · go_wp2_with fail
      go_meet
      case rel => exact ⟨_, rfl, by omega, by omega, hide ((unhide HC4).mono (by omega)), B4, Nat.le_refl _⟩
    · go_wp2_with fail
      refine (pick_any w.heap.size 16 3 _ (by omega) (by omega) (by omega) (unhide HC4)).mono ?_
      rintro e w5 ⟨⟨r, r0, r1, rfl⟩, hc5, hb5⟩
      have HC5 := hide hc5
      have B5 := hide ((unhide B4).trans hb5)
      have z5 := hb5.size
      clear hc5 hb5
      go_wp2_with fail
      go_meet
      case rel => exact ⟨_, rfl, by omega, by omega, hide ((unhide HC5).mono (by omega)), B5, z5⟩
  obtain ⟨M, rfl, m0, m1, HC5, B5, z5⟩ := hcut
  clear HC4 B4
  go_wp2_with fail
  refine (one_any w.heap.size 18 12 _ (by omega) (by omega) (by omega) (unhide HC5)).mono ?_
  rintro e w6 ⟨⟨t6, rfl⟩, hc6, hb6⟩
  have HC6 := hide hc6
  have B6 := hide ((unhide B5).trans hb6)
  have z6 := hb6.size
  have l6 := hc6.lt
  clear hc6 hb6 HC5 B5
  go_upto_if 28 with fail
  go_cut [8] from 27 (fun m wx => ∃ N : Int, m = .int .i64 N ∧ Hid (CurOk wx w.heap.size 22) ∧ Hid (But w.heap.size w wx) ∧ w6.heap.size ≤ wx.heap.size)
  case first =>
    cases t6
    · go_wp2_with fail
      go_meet
      case rel => exact ⟨_, rfl, hide ((unhide HC6).mono (by omega)), B6, Nat.le_refl _⟩
    · have RA := hide (RowIs.new w6 #[.int .i64 0, .int .i64 M, .int .i64 (M + 1)] 3)
      have HCa := hide ((unhide HC6).alW (.cells #[.int .i64 0, .int .i64 M, .int .i64 (M + 1)] 3))
      have Ba := hide ((unhide B6).al (.cells #[.int .i64 0, .int .i64 M, .int .i64 (M + 1)] 3))
      go_wp2_with fail
      refine (pick_any w.heap.size 20 3 _ (by omega) (by omega) (by omega) (unhide HCa)).mono ?_
      rintro e w7 ⟨⟨r, r0, r1, rfl⟩, hc7, hb7⟩
      have HC7 := hide hc7
      have B7 := hide ((unhide Ba).trans hb7)
      have z7 := hb7.size
      obtain ⟨Q, rfl⟩ := Int.eq_ofNat_of_zero_le r0
      obtain ⟨N, hN⟩ : ∃ N : Int, w7.cell? ⟨w6.heap.size, Q, none⟩ = some (.int .i64 N) := by
        have hrow := hb7.row (unhide RA) (by omega)
        have hc : Q = 0 ∨ Q = 1 ∨ Q = 2 := by omega
        rcases hc with rfl | rfl | rfl
        · exact ⟨_, hrow.at rfl⟩
        · exact ⟨_, hrow.at rfl⟩
        · exact ⟨_, hrow.at rfl⟩
      clear hc7 hb7 RA
      go_wp2_with fail
      go_meet
      case rel => exact ⟨_, rfl, hide ((unhide HC7).mono (by omega)), B7, by simp at z7; omega⟩
  obtain ⟨N, rfl, HC8, B8, z8⟩ := hcut
  clear HC6 B6
  go_wp2_with fail
  refine (long_cur w.heap.size 22 10 _ (by omega) (by omega) (by omega) (unhide HC8)).mono ?_
  rintro e w9 ⟨⟨v, D, hD, rfl, ho⟩, _, hb9⟩
  have B9 := hide ((unhide B8).trans hb9)
  clear hb9
  go_wp2_with fail
  refine bodyPost_ret (v := .tuple #[.int .i64 s, .int .i64 M, .int .i64 N, v]) (by simp [results, Tryd.results4, go_sem]) rfl ⟨s, M, N, v, D, hD, rfl, own_mono ho (by omega), (unhide B9).below (Nat.le_refl _) (Nat.le_refl _)⟩
end Go.Proofs.YtoakdagncfaplaaDoor.D
