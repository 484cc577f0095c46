/- Drawn revisions and tokens: rare, DrawTokenOf, DrawReadToken. -/
import Derived.Test.YtfbkaoepopmggaaDoorDSpo
import Derived.Test.YtfbkaoepopmggaaDoorDRtk
import Derived.Deep.RegionWith
namespace Go.Proofs.YtfbkaoepopmggaaDoor.D
open Go.RowKit
set_option maxRecDepth 20000

theorem rare_cur (b m : Nat) (n : Int) (w : World) (hm : m ≤ 700000) (h1 : 2 ≤ n) (h2 : n ≤ 1000) (hc : CurOk w b m) :
    Calls Tryd.prog 14 #[.pointer (some ⟨b, 0, none⟩), .int .i64 n] w fun e w' => (∃ r : Int, 0 ≤ r ∧ r < n ∧ e = .returned (.int .i64 r)) ∧ CurOk w' b (m + 4) ∧ But b w w' := by
  have HC := hide hc
  clear hc
  go_enter Tryd.func14, Tryd.ntmps14
  go_wp2_with fail
  refine (one_any b m 8 _ (by omega) (by omega) (by omega) (unhide HC)).mono ?_
  rintro e w1 ⟨⟨t, rfl⟩, hc1, hb1⟩
  have HC1 := hide hc1
  have B1 := hide hb1
  clear hc1 hb1
  cases t
  · go_wp2_with fail
    go_ret
    exact ⟨⟨0, by omega, by omega, rfl⟩, (unhide HC1).mono (by omega), unhide B1⟩
  · go_wp2_with fail
    refine (pick_any b (m + 2) (n - 1) _ (by omega) (by omega) (by omega) (unhide HC1)).mono ?_
    rintro e w2 ⟨⟨q, q0, q1, rfl⟩, hc2, hb2⟩
    have HC2 := hide hc2
    have B2 := hide ((unhide B1).trans hb2)
    clear hc2 hb2
    go_wp2_with fail
    go_ret
    exact ⟨⟨_, by omega, by omega, rfl⟩, (unhide HC2).mono (by omega), unhide B2⟩

theorem five_cell {w : World} {z : Nat} {q : Int} (h : RowIs w z #[.int .i64 q, .int .i64 0, .int .i64 (-1), .int .i64 1000000, .int .i64 1000001] 3) (q0 : 0 ≤ q) (q1 : q < 60000) {Q : Nat} (hQ : Q < 5) : ∃ r : Int, -1 ≤ r ∧ r ≤ 1000001 ∧ w.cell? ⟨z, Q, none⟩ = some (.int .i64 r) := by
  have hc : Q = 0 ∨ Q = 1 ∨ Q = 2 ∨ Q = 3 ∨ Q = 4 := by omega
  rcases hc with rfl | rfl | rfl | rfl | rfl
  · exact ⟨_, by omega, by omega, h.at rfl⟩
  · exact ⟨_, by omega, by omega, h.at rfl⟩
  · exact ⟨_, by omega, by omega, h.at rfl⟩
  · exact ⟨_, by omega, by omega, h.at rfl⟩
  · exact ⟨_, by omega, by omega, h.at rfl⟩

set_option maxHeartbeats 1000000 in
theorem drawTokenOf_any (a : Option Addr) (len cap : Nat) (w : World) (hc : CodeAt w w.heap.size a len) :
    Calls Tryd.prog 6 #[.slice a len cap] w fun e w' => (∃ (s r : Int), -1 ≤ s ∧ s ≤ 1073741794 ∧ -1 ≤ r ∧ r ≤ 1000001 ∧ e = .returned (.tuple #[.int .i64 s, .int .i64 r])) ∧ Below w.heap.size w w' := by
  have RA := hide (RowIs.new w #[.slice a len cap, .int .i64 0, .int .u64 0] 36)
  have hA1 := hide (show (w.alloc (.cells #[.slice a len cap, .int .i64 0, .int .u64 0] 36)).heap.size = w.heap.size + 1 by simp)
  have CU := hide (show CurOk (w.alloc (.cells #[.slice a len cap, .int .i64 0, .int .u64 0] 36)) w.heap.size 0 from ⟨a, len, cap, 0, 0, unhide RA, Nat.le_refl _, hc.keep (But.of (bAl (Below.refl _ _) _))⟩)
  have BA := hide ((But.refl w.heap.size w).al (.cells #[.slice a len cap, .int .i64 0, .int .u64 0] 36))
  clear hc
  go_enter Tryd.func6, Tryd.ntmps6
  go_wp2_with fail
  refine (secret_cur w.heap.size 0 _ (by omega) (unhide CU)).mono ?_
  rintro e w1 ⟨⟨s, s0, s1, rfl⟩, hc1, hb1⟩
  have HC1 := hide hc1
  have B1 := hide ((unhide BA).trans hb1)
  clear hc1 hb1
  go_wp2_with fail
  go_region_with (first
    | (go_at_call 13; refine (pick_any w.heap.size 10 60000 _ (by omega) (by omega) (by omega) ((unhide HC1).dr _)).mono ?_; rintro e w2 ⟨⟨q, q0, q1, rfl⟩, hc2, hb2⟩; have HC2 := hide hc2; have B2 := hide ((unhide B1).trans ((But.refl _ _).dr _ |>.trans hb2)); have hblt := hc2.lt; clear hc2 hb2)
    | (go_at_call 14; refine (rare_cur w.heap.size 12 5 _ (by omega) (by omega) (by omega) ((unhide HC2).alW (.cells #[.int .i64 q, .int .i64 0, .int .i64 (-1), .int .i64 1000000, .int .i64 1000001] 3))).mono ?_; rintro e w3 ⟨⟨r, r0, r1, rfl⟩, hc3, hb3⟩; have B3 := hide (((unhide B2).al (.cells #[.int .i64 q, .int .i64 0, .int .i64 (-1), .int .i64 1000000, .int .i64 1000001] 3)).trans hb3); obtain ⟨R, rfl⟩ := Int.eq_ofNat_of_zero_le r0; obtain ⟨x, x0, x1, hx⟩ := five_cell (hb3.row (RowIs.new w2 #[.int .i64 q, .int .i64 0, .int .i64 (-1), .int .i64 1000000, .int .i64 1000001] 3) (by omega)) q0 q1 (Q := R) (by omega); clear hc3 hb3)
    | (go_at_call 14; refine (rare_cur w.heap.size 12 5 _ (by omega) (by omega) (by omega) (unhide HC2)).mono ?_; rintro e w3 ⟨⟨r, r0, r1, rfl⟩, hc3, hb3⟩; have B3 := hide (((unhide B2).trans hb3).al (.cells #[.int .i64 q, .int .i64 0, .int .i64 (-1), .int .i64 1000000, .int .i64 1000001] 3)); obtain ⟨R, rfl⟩ := Int.eq_ofNat_of_zero_le r0; obtain ⟨x, x0, x1, hx⟩ := five_cell (RowIs.new w3 #[.int .i64 q, .int .i64 0, .int .i64 (-1), .int .i64 1000000, .int .i64 1000001] 3) q0 q1 (Q := R) (by omega); clear hc3 hb3))
  all_goals
    go_wp2_with fail
    go_ret2
    exact ⟨⟨s, x, s0, s1, x0, x1, rfl⟩, (unhide B3).below (Nat.le_refl _) (Nat.le_refl _)⟩

theorem tok_size (s : Nat) (r : Int) (h0 : -9223372036854775808 ≤ r) (h1 : r ≤ 9223372036854775807) : (tok s r).size ≤ 200 := by
  unfold tok tokH
  rw [ByteArray.size_append, ByteArray.size_append, ByteArray.size_append]
  have zI := itoaB r h0 h1
  have h8 : (tokB s r).length ≤ 8 := by unfold tokB; rw [List.length_take]; omega
  have zA : (⟨(arm (tokB s r)).toArray⟩ : ByteArray).size ≤ 100 := by
    show (arm (tokB s r)).toArray.size ≤ 100
    simp only [List.size_toArray, arm_len, many]
    omega
  have e1 : (⟨#[114]⟩ : ByteArray).size = 1 := rfl
  have e2 : (⟨#[46]⟩ : ByteArray).size = 1 := rfl
  omega

set_option maxHeartbeats 1000000 in
theorem drawReadToken_any (a : Option Addr) (len cap : Nat) (w : World) (hc : CodeAt w w.heap.size a len) :
    Calls Tryd.prog 10 #[.slice a len cap] w fun e w' => (∃ (s : Int) (t : ByteArray), 0 ≤ s ∧ s ≤ 100000 ∧ t.size ≤ 1000 ∧ e = .returned (.tuple #[.int .i64 s, .string t])) ∧ Below w.heap.size w w' := by
  have RA := hide (RowIs.new w #[.slice a len cap, .int .i64 0, .int .u64 0] 36)
  have CU := hide (show CurOk (w.alloc (.cells #[.slice a len cap, .int .i64 0, .int .u64 0] 36)) w.heap.size 0 from ⟨a, len, cap, 0, 0, unhide RA, Nat.le_refl _, hc.keep (But.of (bAl (Below.refl _ _) _))⟩)
  have BA := hide ((But.refl w.heap.size w).al (.cells #[.slice a len cap, .int .i64 0, .int .u64 0] 36))
  clear hc
  go_enter Tryd.func10, Tryd.ntmps10
  go_wp2_with fail
  refine (pick_any w.heap.size 0 60000 _ (by omega) (by omega) (by omega) (unhide CU)).mono ?_
  rintro e w1 ⟨⟨q, q0, q1, rfl⟩, hc1, hb1⟩
  have HC1 := hide hc1
  have B1 := hide ((unhide BA).trans hb1)
  obtain ⟨Q, rfl⟩ := Int.eq_ofNat_of_zero_le q0
  clear hc1 hb1
  go_wp2_with fail
  refine (pick_any w.heap.size 2 300 _ (by omega) (by omega) (by omega) (unhide HC1)).mono ?_
  rintro e w2 ⟨⟨r, r0, r1, rfl⟩, hc2, hb2⟩
  have HC2 := hide hc2
  have B2 := hide ((unhide B1).trans hb2)
  clear hc2 hb2
  go_wp2_with fail
  refine (l7Token_any (1 + Q) r _ (by omega) (by omega) (by omega)).mono ?_
  rintro e w3 ⟨rfl, hb3⟩
  have HC3 := hide ((unhide HC2).keep hb3)
  have B3 := hide ((unhide B2).trans (But.of hb3))
  have zt := tok_size (1 + Q) r (by omega) (by omega)
  generalize tok (1 + Q) r = T at zt ⊢
  clear hb3
  go_wp2_with fail
  refine (one_any w.heap.size 4 2 _ (by omega) (by omega) (by omega) (unhide HC3)).mono ?_
  rintro e w4 ⟨⟨t, rfl⟩, hc4, hb4⟩
  have HC4 := hide hc4
  have B4 := hide ((unhide B3).trans hb4)
  clear hc4 hb4
  cases t
  · go_wp2_with fail
    refine (pick_any w.heap.size 6 12 _ (by omega) (by omega) (by omega) (unhide HC4)).mono ?_
    rintro e w5 ⟨⟨x, x0, x1, rfl⟩, hc5, hb5⟩
    have B5 := hide ((unhide B4).trans hb5)
    clear hc5 hb5
    obtain ⟨X, rfl⟩ := Int.eq_ofNat_of_zero_le x0
    go_wp2_with fail
    go_ret2
    exact ⟨⟨_, T, by omega, by omega, by omega, rfl⟩, (unhide B5).below (Nat.le_refl _) (Nat.le_refl _)⟩
  · go_wp2_with fail
    refine (spoilt_cur w.heap.size 6 T ⟨#[114, 48, 46, 97, 45]⟩ _ (by omega) (by omega) (by decide) (by decide) (unhide HC4)).mono ?_
    rintro e w5 ⟨⟨S, hS, rfl⟩, hc5, hb5⟩
    have HC5 := hide hc5
    have B5 := hide ((unhide B4).trans hb5)
    clear hc5 hb5
    go_wp2_with fail
    refine (pick_any w.heap.size 106 12 _ (by omega) (by omega) (by omega) (unhide HC5)).mono ?_
    rintro e w6 ⟨⟨x, x0, x1, rfl⟩, hc6, hb6⟩
    have B6 := hide ((unhide B5).trans hb6)
    clear hc6 hb6
    obtain ⟨X, rfl⟩ := Int.eq_ofNat_of_zero_le x0
    go_wp2_with fail
    go_ret2
    exact ⟨⟨_, S, by omega, by omega, by omega, rfl⟩, (unhide B6).below (Nat.le_refl _) (Nat.le_refl _)⟩
end Go.Proofs.YtfbkaoepopmggaaDoor.D
