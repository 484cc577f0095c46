/- KAtm, ported from seat 1a. -/
import Derived.Test.YtlnmhjihfolliaaKWide
import Derived.Test.YtlnmhjihfolliaaKBlk
namespace Go.Proofs.Ytlnmhjihfolliaa.V
open Go.RowKit

def Zero4 : Array Value := #[.int .i64 0, .int .i64 0, .string ⟨#[]⟩, .string ⟨#[]⟩]
theorem zero_facts {w : World} {z : Nat} (h : RowIs w z Zero4 26) :
    (w.cell? ⟨z, 0, none⟩ = some (.int .i64 0) ∧ w.cell? ⟨z, 1, none⟩ = some (.int .i64 0) ∧ w.cell? ⟨z, 2, none⟩ = some (.string ⟨#[]⟩) ∧ w.cell? ⟨z, 3, none⟩ = some (.string ⟨#[]⟩)) ∧
    w.frozen? ⟨z, 0, none⟩ = false ∧ w.frozen? ⟨z, 1, none⟩ = false ∧ w.frozen? ⟨z, 2, none⟩ = false ∧ w.frozen? ⟨z, 3, none⟩ = false :=
  ⟨⟨h.at rfl, h.at rfl, h.at rfl, h.at rfl⟩, h.froz 0, h.froz 1, h.froz 2, h.froz 3⟩
def put4 (w : World) (z : Nat) (x n t y : Value) : World := (((w.setCell ⟨z, 0, none⟩ x).setCell ⟨z, 1, none⟩ n).setCell ⟨z, 2, none⟩ t).setCell ⟨z, 3, none⟩ y
theorem put4_row {w : World} {z : Nat} (h : RowIs w z Zero4 26) (x n t y : Value) : RowIs (put4 w z x n t y) z #[x, n, t, y] 26 :=
  (((h.set 0 x).set 1 n).set 2 t).set 3 y
theorem put4_cur {w : World} {b m z : Nat} (h : CurOk w b m) (hz : b < z) (x n t y : Value) : CurOk (put4 w z x n t y) b m :=
  (((h.setAbove _ hz).setAbove _ hz).setAbove _ hz).setAbove _ hz
theorem put4_but {w w' : World} {b : Nat} (h : But b w w') (x n t y : Value) : But b w (put4 w' w.heap.size x n t y) :=
  (((h.setNew _).setNew _).setNew _).setNew _

def three : List ByteArray := [⟨#[85, 115, 101, 114]⟩, ⟨#[68, 111, 99]⟩, ⟨#[95, 103, 49]⟩]
def five : List ByteArray := [⟨#[97, 110, 110]⟩, ⟨#[98, 111, 98]⟩, ⟨#[97, 32, 98]⟩, ⟨#[120, 34, 121]⟩, ⟨#[92]⟩]
theorem three_size {s : ByteArray} (h : s ∈ three) : s.size ≤ 4 := by
  unfold three at h
  simp only [List.mem_cons, List.not_mem_nil, or_false] at h
  rcases h with rfl | rfl | rfl <;> decide
theorem five_size {s : ByteArray} (h : s ∈ five) : s.size ≤ 4 := by
  unfold five at h
  simp only [List.mem_cons, List.not_mem_nil, or_false] at h
  rcases h with rfl | rfl | rfl | rfl | rfl <;> decide

set_option maxHeartbeats 2000000 in
theorem atom_any (b m : Nat) (w : World) (hm : m ≤ 600000) (hc : CurOk w b m) :
    Calls Try.prog 10 #[.pointer (some ⟨b, 0, none⟩)] w fun e w' => (∃ (x n : Int) (t y : ByteArray), -9223372036854775808 ≤ n ∧ n ≤ 9223372036854775807 ∧ t.size ≤ 10 ∧ y.size ≤ 10 ∧ e = .returned (.agg #[.int .i64 x, .int .i64 n, .string t, .string y])) ∧ CurOk w' b (m + 40) ∧ But b w w' := by
  have hlt := hc.lt
  have HC := hide hc
  clear hc
  go_enter Try.func10, Try.ntmps10
  go_wp2_with fail
  refine (pick_any b m 9 _ (by omega) (by omega) (by omega) ((unhide HC).al _)).mono ?_
  rintro e w1 ⟨⟨r, r0, r1, rfl⟩, hc1, hb1⟩
  have RA := hide (hb1.row (RowIs.new w Zero4 26) (by omega))
  have B1 := hide (((But.refl b w).al _).trans hb1)
  have HC1 := hide hc1
  clear hc1 hb1 HC
  rcases (by omega : r = 0 ∨ r = 1 ∨ r = 2 ∨ r = 3 ∨ r = 4 ∨ r = 5 ∨ r = 6 ∨ r = 7 ∨ r = 8) with rfl | rfl | rfl | rfl | rfl | rfl | rfl | rfl | rfl
  · go_wp2_with fail
    refine (pick_any b (m + 2) 2 _ (by omega) (by omega) (by omega) (unhide HC1)).mono ?_
    rintro e w2 ⟨⟨q, q0, q1, rfl⟩, hc2, hb2⟩
    have RA2 := hide (hb2.row (unhide RA) (by omega))
    have HC2 := hide hc2
    have B2 := hide ((unhide B1).trans hb2)
    obtain ⟨⟨c0, c1, c2, c3⟩, f0, f1, f2, f3⟩ := zero_facts (unhide RA2)
    clear hc2 hb2
    go_wp2_with fail
    have R4 := put4_row (unhide RA2) (.int .i64 1) (.int .i64 q) (.string ⟨#[]⟩) (.string ⟨#[]⟩)
    have e0 := R4.at (o := 0) rfl
    have e1 := R4.at (o := 1) rfl
    have e2 := R4.at (o := 2) rfl
    have e3 := R4.at (o := 3) rfl
    have CU := hide (put4_cur (z := w.heap.size) ((unhide HC2).mono (by omega) : CurOk _ b (m + 40)) hlt (.int .i64 1) (.int .i64 q) (.string ⟨#[]⟩) (.string ⟨#[]⟩))
    have BU := hide (put4_but (unhide B2) (.int .i64 1) (.int .i64 q) (.string ⟨#[]⟩) (.string ⟨#[]⟩))
    unfold put4 at e0 e1 e2 e3 CU BU
    clear c0 c1 c2 c3 f0 f1 f2 f3
    exact bodyPost_ret (v := .agg #[.int .i64 1, .int .i64 q, .string ⟨#[]⟩, .string ⟨#[]⟩]) (by simp [results, Try.results10, go_sem, e0, e1, e2, e3]) rfl ⟨⟨_, _, _, _, by omega, by omega, by first | decide | omega, by first | decide | omega, rfl⟩, unhide CU, unhide BU⟩
  · go_wp2_with fail
    refine (pick_any b (m + 2) 7 _ (by omega) (by omega) (by omega) (unhide HC1)).mono ?_
    rintro e w2 ⟨⟨q, q0, q1, rfl⟩, hc2, hb2⟩
    have RA2 := hide (hb2.row (unhide RA) (by omega))
    have HC2 := hide hc2
    have B2 := hide ((unhide B1).trans hb2)
    obtain ⟨⟨c0, c1, c2, c3⟩, f0, f1, f2, f3⟩ := zero_facts (unhide RA2)
    clear hc2 hb2
    go_wp2_with fail
    have R4 := put4_row (unhide RA2) (.int .i64 2) (.int .i64 (q - 3)) (.string ⟨#[]⟩) (.string ⟨#[]⟩)
    have e0 := R4.at (o := 0) rfl
    have e1 := R4.at (o := 1) rfl
    have e2 := R4.at (o := 2) rfl
    have e3 := R4.at (o := 3) rfl
    have CU := hide (put4_cur (z := w.heap.size) ((unhide HC2).mono (by omega) : CurOk _ b (m + 40)) hlt (.int .i64 2) (.int .i64 (q - 3)) (.string ⟨#[]⟩) (.string ⟨#[]⟩))
    have BU := hide (put4_but (unhide B2) (.int .i64 2) (.int .i64 (q - 3)) (.string ⟨#[]⟩) (.string ⟨#[]⟩))
    unfold put4 at e0 e1 e2 e3 CU BU
    clear c0 c1 c2 c3 f0 f1 f2 f3
    exact bodyPost_ret (v := .agg #[.int .i64 2, .int .i64 (q - 3), .string ⟨#[]⟩, .string ⟨#[]⟩]) (by simp [results, Try.results10, go_sem, e0, e1, e2, e3]) rfl ⟨⟨_, _, _, _, by omega, by omega, by first | decide | omega, by first | decide | omega, rfl⟩, unhide CU, unhide BU⟩
  · go_wp2_with fail
    refine (wide_any b (m + 2) _ (by omega) (unhide HC1)).mono ?_
    rintro e w2 ⟨⟨q, q0, q1, rfl⟩, hc2, hb2⟩
    have RA2 := hide (hb2.row (unhide RA) (by omega))
    have HC2 := hide hc2
    have B2 := hide ((unhide B1).trans hb2)
    obtain ⟨⟨c0, c1, c2, c3⟩, f0, f1, f2, f3⟩ := zero_facts (unhide RA2)
    clear hc2 hb2
    go_wp2_with fail
    have R4 := put4_row (unhide RA2) (.int .i64 2) (.int .i64 q) (.string ⟨#[]⟩) (.string ⟨#[]⟩)
    have e0 := R4.at (o := 0) rfl
    have e1 := R4.at (o := 1) rfl
    have e2 := R4.at (o := 2) rfl
    have e3 := R4.at (o := 3) rfl
    have CU := hide (put4_cur (z := w.heap.size) ((unhide HC2).mono (by omega) : CurOk _ b (m + 40)) hlt (.int .i64 2) (.int .i64 q) (.string ⟨#[]⟩) (.string ⟨#[]⟩))
    have BU := hide (put4_but (unhide B2) (.int .i64 2) (.int .i64 q) (.string ⟨#[]⟩) (.string ⟨#[]⟩))
    unfold put4 at e0 e1 e2 e3 CU BU
    clear c0 c1 c2 c3 f0 f1 f2 f3
    exact bodyPost_ret (v := .agg #[.int .i64 2, .int .i64 q, .string ⟨#[]⟩, .string ⟨#[]⟩]) (by simp [results, Try.results10, go_sem, e0, e1, e2, e3]) rfl ⟨⟨_, _, _, _, by omega, by omega, by first | decide | omega, by first | decide | omega, rfl⟩, unhide CU, unhide BU⟩
  · go_wp2_with fail
    refine (printed_any b (m + 2) _ (by omega) (unhide HC1)).mono ?_
    rintro e w2 ⟨⟨s, q1, rfl⟩, hc2, hb2⟩
    have RA2 := hide (hb2.row (unhide RA) (by omega))
    have HC2 := hide hc2
    have B2 := hide ((unhide B1).trans hb2)
    obtain ⟨⟨c0, c1, c2, c3⟩, f0, f1, f2, f3⟩ := zero_facts (unhide RA2)
    clear hc2 hb2
    go_wp2_with fail
    have R4 := put4_row (unhide RA2) (.int .i64 3) (.int .i64 0) (.string s) (.string ⟨#[]⟩)
    have e0 := R4.at (o := 0) rfl
    have e1 := R4.at (o := 1) rfl
    have e2 := R4.at (o := 2) rfl
    have e3 := R4.at (o := 3) rfl
    have CU := hide (put4_cur (z := w.heap.size) ((unhide HC2).mono (by omega) : CurOk _ b (m + 40)) hlt (.int .i64 3) (.int .i64 0) (.string s) (.string ⟨#[]⟩))
    have BU := hide (put4_but (unhide B2) (.int .i64 3) (.int .i64 0) (.string s) (.string ⟨#[]⟩))
    unfold put4 at e0 e1 e2 e3 CU BU
    clear c0 c1 c2 c3 f0 f1 f2 f3
    exact bodyPost_ret (v := .agg #[.int .i64 3, .int .i64 0, .string s, .string ⟨#[]⟩]) (by simp [results, Try.results10, go_sem, e0, e1, e2, e3]) rfl ⟨⟨_, _, _, _, by omega, by omega, by first | decide | omega, by first | decide | omega, rfl⟩, unhide CU, unhide BU⟩
  · have zb : w1.heap.size ≠ b := by have := (unhide HC1).lt; omega
    go_wp2_with fail
    refine (of_any b (m + 2) w1.heap.size three 3 _ (by omega) (by omega) (by omega) rfl ((unhide HC1).al _) (strs_row w1 three) zb).mono ?_
    rintro e w2 ⟨⟨s1, hs1, rfl⟩, hc2, hb2⟩
    have g1 := three_size hs1
    have RB := hide (hb2.row ((unhide RA).keep (bAl (Below.refl _ _) _)) (by omega))
    have HC2 := hide hc2
    have B2 := hide (((unhide B1).al _).trans hb2)
    have zb2 : w2.heap.size ≠ b := by have := hc2.lt; omega
    clear hc2 hb2 hs1
    go_wp2_with fail
    refine (of_any b (m + 2 + 2) w2.heap.size five 5 _ (by omega) (by omega) (by omega) rfl ((unhide HC2).al _) (strs_row w2 five) zb2).mono ?_
    rintro e w3 ⟨⟨s2, hs2, rfl⟩, hc3, hb3⟩
    have g2 := five_size hs2
    have RA2 := hide (hb3.row ((unhide RB).keep (bAl (Below.refl _ _) _)) (by omega))
    have HC3 := hide hc3
    have B3 := hide (((unhide B2).al _).trans hb3)
    obtain ⟨⟨c0, c1, c2, c3⟩, f0, f1, f2, f3⟩ := zero_facts (unhide RA2)
    clear hc3 hb3 hs2
    go_wp2_with fail
    have R4 := put4_row (unhide RA2) (.int .i64 4) (.int .i64 0) (.string s2) (.string s1)
    have e0 := R4.at (o := 0) rfl
    have e1 := R4.at (o := 1) rfl
    have e2 := R4.at (o := 2) rfl
    have e3 := R4.at (o := 3) rfl
    have CU := hide (put4_cur (z := w.heap.size) ((unhide HC3).mono (by omega) : CurOk _ b (m + 40)) hlt (.int .i64 4) (.int .i64 0) (.string s2) (.string s1))
    have BU := hide (put4_but (unhide B3) (.int .i64 4) (.int .i64 0) (.string s2) (.string s1))
    unfold put4 at e0 e1 e2 e3 CU BU
    clear c0 c1 c2 c3 f0 f1 f2 f3
    exact bodyPost_ret (v := .agg #[.int .i64 4, .int .i64 0, .string s2, .string s1]) (by simp [results, Try.results10, go_sem, e0, e1, e2, e3]) rfl ⟨⟨_, _, _, _, by omega, by omega, by first | decide | omega, by first | decide | omega, rfl⟩, unhide CU, unhide BU⟩
  · go_wp2_with fail
    refine (pick_any b (m + 2) 40000 _ (by omega) (by omega) (by omega) (unhide HC1)).mono ?_
    rintro e w2 ⟨⟨q, q0, q1, rfl⟩, hc2, hb2⟩
    have RA2 := hide (hb2.row (unhide RA) (by omega))
    have HC2 := hide hc2
    have B2 := hide ((unhide B1).trans hb2)
    obtain ⟨⟨c0, c1, c2, c3⟩, f0, f1, f2, f3⟩ := zero_facts (unhide RA2)
    clear hc2 hb2
    go_wp2_with fail
    have R4 := put4_row (unhide RA2) (.int .i64 5) (.int .i64 (q - 20000)) (.string ⟨#[]⟩) (.string ⟨#[]⟩)
    have e0 := R4.at (o := 0) rfl
    have e1 := R4.at (o := 1) rfl
    have e2 := R4.at (o := 2) rfl
    have e3 := R4.at (o := 3) rfl
    have CU := hide (put4_cur (z := w.heap.size) ((unhide HC2).mono (by omega) : CurOk _ b (m + 40)) hlt (.int .i64 5) (.int .i64 (q - 20000)) (.string ⟨#[]⟩) (.string ⟨#[]⟩))
    have BU := hide (put4_but (unhide B2) (.int .i64 5) (.int .i64 (q - 20000)) (.string ⟨#[]⟩) (.string ⟨#[]⟩))
    unfold put4 at e0 e1 e2 e3 CU BU
    clear c0 c1 c2 c3 f0 f1 f2 f3
    exact bodyPost_ret (v := .agg #[.int .i64 5, .int .i64 (q - 20000), .string ⟨#[]⟩, .string ⟨#[]⟩]) (by simp [results, Try.results10, go_sem, e0, e1, e2, e3]) rfl ⟨⟨_, _, _, _, by omega, by omega, by first | decide | omega, by first | decide | omega, rfl⟩, unhide CU, unhide BU⟩
  · go_wp2_with fail
    refine (block_any b (m + 2) _ (by omega) (unhide HC1)).mono ?_
    rintro e w2 ⟨⟨q, q0, q1, rfl⟩, hc2, hb2⟩
    have RA2 := hide (hb2.row (unhide RA) (by omega))
    have HC2 := hide hc2
    have B2 := hide ((unhide B1).trans hb2)
    obtain ⟨⟨c0, c1, c2, c3⟩, f0, f1, f2, f3⟩ := zero_facts (unhide RA2)
    clear hc2 hb2
    go_wp2_with fail
    have R4 := put4_row (unhide RA2) (.int .i64 6) (.int .i64 q) (.string ⟨#[]⟩) (.string ⟨#[]⟩)
    have e0 := R4.at (o := 0) rfl
    have e1 := R4.at (o := 1) rfl
    have e2 := R4.at (o := 2) rfl
    have e3 := R4.at (o := 3) rfl
    have CU := hide (put4_cur (z := w.heap.size) ((unhide HC2).mono (by omega) : CurOk _ b (m + 40)) hlt (.int .i64 6) (.int .i64 q) (.string ⟨#[]⟩) (.string ⟨#[]⟩))
    have BU := hide (put4_but (unhide B2) (.int .i64 6) (.int .i64 q) (.string ⟨#[]⟩) (.string ⟨#[]⟩))
    unfold put4 at e0 e1 e2 e3 CU BU
    clear c0 c1 c2 c3 f0 f1 f2 f3
    exact bodyPost_ret (v := .agg #[.int .i64 6, .int .i64 q, .string ⟨#[]⟩, .string ⟨#[]⟩]) (by simp [results, Try.results10, go_sem, e0, e1, e2, e3]) rfl ⟨⟨_, _, _, _, by omega, by omega, by first | decide | omega, by first | decide | omega, rfl⟩, unhide CU, unhide BU⟩
  · go_wp2_with fail
    refine (pick_any b (m + 2) 1000 _ (by omega) (by omega) (by omega) (unhide HC1)).mono ?_
    rintro e w2 ⟨⟨q, q0, q1, rfl⟩, hc2, hb2⟩
    have RA2 := hide (hb2.row (unhide RA) (by omega))
    have HC2 := hide hc2
    have B2 := hide ((unhide B1).trans hb2)
    obtain ⟨⟨c0, c1, c2, c3⟩, f0, f1, f2, f3⟩ := zero_facts (unhide RA2)
    clear hc2 hb2
    go_wp2_with fail
    have R4 := put4_row (unhide RA2) (.int .i64 7) (.int .i64 (q - 10)) (.string ⟨#[]⟩) (.string ⟨#[]⟩)
    have e0 := R4.at (o := 0) rfl
    have e1 := R4.at (o := 1) rfl
    have e2 := R4.at (o := 2) rfl
    have e3 := R4.at (o := 3) rfl
    have CU := hide (put4_cur (z := w.heap.size) ((unhide HC2).mono (by omega) : CurOk _ b (m + 40)) hlt (.int .i64 7) (.int .i64 (q - 10)) (.string ⟨#[]⟩) (.string ⟨#[]⟩))
    have BU := hide (put4_but (unhide B2) (.int .i64 7) (.int .i64 (q - 10)) (.string ⟨#[]⟩) (.string ⟨#[]⟩))
    unfold put4 at e0 e1 e2 e3 CU BU
    clear c0 c1 c2 c3 f0 f1 f2 f3
    exact bodyPost_ret (v := .agg #[.int .i64 7, .int .i64 (q - 10), .string ⟨#[]⟩, .string ⟨#[]⟩]) (by simp [results, Try.results10, go_sem, e0, e1, e2, e3]) rfl ⟨⟨_, _, _, _, by omega, by omega, by first | decide | omega, by first | decide | omega, rfl⟩, unhide CU, unhide BU⟩
  · go_wp2_with fail
    refine (wide_any b (m + 2) _ (by omega) (unhide HC1)).mono ?_
    rintro e w2 ⟨⟨q, q0, q1, rfl⟩, hc2, hb2⟩
    have RA2 := hide (hb2.row (unhide RA) (by omega))
    have HC2 := hide hc2
    have B2 := hide ((unhide B1).trans hb2)
    obtain ⟨⟨c0, c1, c2, c3⟩, f0, f1, f2, f3⟩ := zero_facts (unhide RA2)
    clear hc2 hb2
    go_wp2_with fail
    have R4 := put4_row (unhide RA2) (.int .i64 5) (.int .i64 q) (.string ⟨#[]⟩) (.string ⟨#[]⟩)
    have e0 := R4.at (o := 0) rfl
    have e1 := R4.at (o := 1) rfl
    have e2 := R4.at (o := 2) rfl
    have e3 := R4.at (o := 3) rfl
    have CU := hide (put4_cur (z := w.heap.size) ((unhide HC2).mono (by omega) : CurOk _ b (m + 40)) hlt (.int .i64 5) (.int .i64 q) (.string ⟨#[]⟩) (.string ⟨#[]⟩))
    have BU := hide (put4_but (unhide B2) (.int .i64 5) (.int .i64 q) (.string ⟨#[]⟩) (.string ⟨#[]⟩))
    unfold put4 at e0 e1 e2 e3 CU BU
    clear c0 c1 c2 c3 f0 f1 f2 f3
    exact bodyPost_ret (v := .agg #[.int .i64 5, .int .i64 q, .string ⟨#[]⟩, .string ⟨#[]⟩]) (by simp [results, Try.results10, go_sem, e0, e1, e2, e3]) rfl ⟨⟨_, _, _, _, by omega, by omega, by first | decide | omega, by first | decide | omega, rfl⟩, unhide CU, unhide BU⟩
end Go.Proofs.Ytlnmhjihfolliaa.V
