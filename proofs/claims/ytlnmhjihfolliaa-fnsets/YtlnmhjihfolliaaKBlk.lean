/- KBlk, ported from seat 1a. -/
import Derived.Test.YtlnmhjihfolliaaKDraw
import Derived.Test.YtlnmhjihfolliaaQAtm
import Derived.Deep.RegionWith
namespace Go.Proofs.Ytlnmhjihfolliaa.V
open Go.RowKit

theorem CurOk.al {w : World} {b m : Nat} (h : CurOk w b m) (o : Obj) : CurOk (w.alloc o) b m := h.keep (bAl (Below.refl _ _) o)
theorem CurOk.dr {w : World} {b m : Nat} (h : CurOk w b m) : CurOk w.drew b m := h
def six' : Array Value := #[.int .i64 0, .int .i64 8, .int .i64 16, .int .i64 24, .int .i64 31, .int .i64 32]
def four' : Array Value := #[.int .i64 10, .int .i64 10, .int .i64 192, .int .i64 255]
theorem six_at (j : Nat) (h : j < 6) : ∃ v : Int, 0 ≤ v ∧ v ≤ 32 ∧ six'[j]? = some (.int .i64 v) := by
  match j, h with
  | 0, _ => exact ⟨0, by omega, by omega, rfl⟩
  | 1, _ => exact ⟨8, by omega, by omega, rfl⟩
  | 2, _ => exact ⟨16, by omega, by omega, rfl⟩
  | 3, _ => exact ⟨24, by omega, by omega, rfl⟩
  | 4, _ => exact ⟨31, by omega, by omega, rfl⟩
  | 5, _ => exact ⟨32, by omega, by omega, rfl⟩
theorem four_at (j : Nat) (h : j < 4) : ∃ v : Int, 0 ≤ v ∧ v ≤ 255 ∧ four'[j]? = some (.int .i64 v) := by
  match j, h with
  | 0, _ => exact ⟨10, by omega, by omega, rfl⟩
  | 1, _ => exact ⟨10, by omega, by omega, rfl⟩
  | 2, _ => exact ⟨192, by omega, by omega, rfl⟩
  | 3, _ => exact ⟨255, by omega, by omega, rfl⟩

def FourAt (j : Nat) (v : Int) : Prop := four'[j]? = some (.int .i64 v)
theorem four_both (j : Nat) (h : j < 4) : ∃ v : Int, 0 ≤ v ∧ v ≤ 255 ∧ FourAt j v ∧ ∀ W : World, (W.alloc (.cells #[.int .i64 10, .int .i64 10, .int .i64 192, .int .i64 255] 3)).cell? ⟨W.heap.size, j, none⟩ = some (.int .i64 v) := by
  obtain ⟨v, h0, h1, hv⟩ := four_at j h
  exact ⟨v, h0, h1, hv, fun W => (RowIs.new W four' 3).at hv⟩
theorem cell_four {w : World} {z j : Nat} {v : Int} (h : Hid (RowIs w z #[.int .i64 10, .int .i64 10, .int .i64 192, .int .i64 255] 3)) (hv : FourAt j v) : w.cell? ⟨z, j, none⟩ = some (.int .i64 v) := (unhide h).at hv
theorem pick_hid (b m : Nat) (n : Int) (w : World) (hm : m ≤ 900000) (hn : 1 ≤ n) (hn2 : n ≤ 65536) (hc : Hid (CurOk w b m)) :
    Calls Try.prog 9 #[.pointer (some ⟨b, 0, none⟩), .int .i64 n] w fun e w' => (∃ j : Nat, (j : Int) < n ∧ e = .returned (.int .i64 j)) ∧ Hid (CurOk w' b (m + 2)) ∧ Hid (But b w w') := by
  refine (pick_any b m n w hm hn hn2 (unhide hc)).mono ?_
  rintro e w1 ⟨⟨r, r0, r1, rfl⟩, hc1, hb1⟩
  obtain ⟨j, rfl⟩ := Int.eq_ofNat_of_zero_le r0
  exact ⟨⟨j, r1, rfl⟩, hide hc1, hide hb1⟩
theorem pick_then {b m : Nat} {n : Int} {w : World} {Q : Ending → World → Prop} (hc : Hid (CurOk w b m)) (hm : m ≤ 900000) (hn : 1 ≤ n) (hn2 : n ≤ 65536)
    (h : ∀ (w' : World) (j : Nat), (j : Int) < n → Hid (CurOk w' b (m + 2)) → Hid (But b w w') → Q (.returned (.int .i64 j)) w') : Calls Try.prog 9 #[.pointer (some ⟨b, 0, none⟩), .int .i64 n] w Q := by
  refine (pick_hid b m n w hm hn hn2 hc).mono ?_
  rintro e w1 ⟨⟨j, h1, rfl⟩, h2, h3⟩
  exact h w1 j h1 h2 h3
theorem cur_al {w : World} {b m : Nat} {o : Obj} (h : Hid (CurOk w b m)) : Hid (CurOk (w.alloc o) b m) := hide ((unhide h).al o)
theorem cur_ald {w : World} {b m : Nat} {o : Obj} (h : Hid (CurOk w b m)) : Hid (CurOk (w.alloc o).drew b m) := cur_al h
theorem but_al {x y : World} {b : Nat} {o : Obj} (h : Hid (But b x y)) : Hid (But b x (y.alloc o)) := hide ((unhide h).al o)
theorem but_step {x y z : World} {b : Nat} (h2 : Hid (But b y z)) (h1 : Hid (But b x y)) : Hid (But b x z) := hide ((unhide h1).trans (unhide h2))
theorem but_ald {x y : World} {b : Nat} {o : Obj} (h : Hid (But b x y)) : Hid (But b x (y.alloc o).drew) :=
  have k := (unhide h).al o
  hide ⟨k.os, k.tape, k.output, k.size, k.block⟩
theorem But.setNew {b o : Nat} {w x : World} (h : But b w x) (v : Value) : But b w (x.setCell ⟨w.heap.size, o, none⟩ v) :=
  ⟨h.os, h.tape, h.output, by simpa [World.setCell] using h.size, fun k hk hn => (heap_setCell_other x ⟨w.heap.size, o, none⟩ k v (by show k ≠ w.heap.size; omega)).trans (h.block k hk hn)⟩
theorem row_first {b z : Nat} {w w' : World} {C : Array Value} (h : Hid (But b (w.alloc (.cells C 3)) w')) (hz : z = w.heap.size) (hb : b < w.heap.size) : Hid (RowIs w' z C 3) := by
  subst hz
  exact hide ((unhide h).row (RowIs.new w C 3) (by omega))
theorem row_drew {b : Nat} {w w' : World} {C : Array Value} (h : Hid (But b (w.alloc (.cells C 3)).drew w')) (hb : b < w.heap.size) : Hid (RowIs w' w.heap.size C 3) :=
  hide ((unhide h).row (show RowIs (w.alloc (.cells C 3)).drew w.heap.size C 3 from RowIs.new w C 3) (by omega))
theorem row_then {b z : Nat} {w w' : World} {C : Array Value} (h : Hid (But b w w')) (hr : Hid (RowIs w z C 3)) (hz : z ≠ b) : Hid (RowIs w' z C 3) :=
  hide ((unhide h).row (unhide hr) hz)

set_option maxHeartbeats 4000000 in
theorem block_any (b m : Nat) (w : World) (hm : m ≤ 700000) (hc : CurOk w b m) :
    Calls Try.prog 29 #[.pointer (some ⟨b, 0, none⟩)] w fun e w' => (∃ n : Int, 0 ≤ n ∧ n ≤ 1000000000000 ∧ e = .returned (.agg #[.int .i64 6, .int .i64 n, .string ⟨#[]⟩, .string ⟨#[]⟩])) ∧ CurOk w' b (m + 10) ∧ But b w w' := by
  have hlt := hc.lt
  have HC := hide hc
  clear hc
  go_enter Try.func29, Try.ntmps29
  go_wp2_with fail
  refine (pick_any b m 6 _ (by omega) (by omega) (by omega) (((unhide HC).al _).al _)).mono ?_
  rintro e w1 ⟨⟨r, r0, r1, rfl⟩, hc1, hb1⟩
  obtain ⟨j, rfl⟩ := Int.eq_ofNat_of_zero_le r0
  obtain ⟨bits, q0, q1, hq⟩ := six_at j (by omega)
  have RA := hide (hb1.row ((RowIs.new w #[.int .i64 0, .int .i64 0, .string ⟨#[]⟩, .string ⟨#[]⟩] 26).keep (bAl (Below.refl _ _) _)) (by omega))
  have cj := (hb1.row (RowIs.new (w.alloc (.cells #[.int .i64 0, .int .i64 0, .string ⟨#[]⟩, .string ⟨#[]⟩] 26)) six' 3) (by simp; omega)).at hq
  rw [World.size_alloc] at cj
  have B1 := hide (((But.refl b w).al _).al _ |>.trans hb1)
  have HC1 := hide hc1
  clear hc1 hb1 hq
  go_wp2_with fail
  rename_i K hK
  have tail : ∀ (f : Int) (w' : World) (u11 u12 u13 u14 u15 u16 u17 u18 u19 u20 u21 u22 u23 u24 u25 u26 u27 : Value), 0 ≤ f → f ≤ 4294967295 → Hid (CurOk w' b (m + 2 + 2 + 2 + 2 + 2)) → Hid (But b w1 w') →
      K { tmps := #[.pointer (some ⟨b, 0, none⟩),  undef, .pointer (some ⟨w.heap.size, 0, none⟩), .int .i64 bits, .int .i64 f,  undef, .slice (some ⟨w.heap.size + 1, 0, none⟩) 6 6, .pointer (some ⟨b, 0, none⟩), .int .i64 j, .pointer (some ⟨w.heap.size + 1, j, none⟩), .int .i64 bits, u11, u12, u13, u14, u15, u16, u17, u18, u19, u20, u21, u22, u23, u24, u25, u26, u27,  undef,  undef,  undef,  undef,  undef,  undef,  undef,  undef,  undef,  undef,  undef,  undef], defers := [] } w' := by
    intro f w' u11 u12 u13 u14 u15 u16 u17 u18 u19 u20 u21 u22 u23 u24 u25 u26 u27 f0 f1 hc2 hb2
    have RA2 := hide ((unhide hb2).row (unhide RA) (by omega))
    have z0 := (unhide RA2).froz 0
    have c0 : w'.cell? ⟨w.heap.size, 0, none⟩ = some (.int .i64 0) := (unhide RA2).at rfl
    have c1 : w'.cell? ⟨w.heap.size, 1, none⟩ = some (.int .i64 0) := (unhide RA2).at rfl
    have c2 : w'.cell? ⟨w.heap.size, 2, none⟩ = some (.string ⟨#[]⟩) := (unhide RA2).at rfl
    have c3 : w'.cell? ⟨w.heap.size, 3, none⟩ = some (.string ⟨#[]⟩) := (unhide RA2).at rfl
    have f0' := (unhide RA2).froz 0
    have f1' := (unhide RA2).froz 1
    have f2' := (unhide RA2).froz 2
    have f3' := (unhide RA2).froz 3
    obtain ⟨k, hk⟩ := Int.eq_ofNat_of_zero_le (show 0 ≤ 32 - bits by omega)
    have p0 := pw_pos k
    have p1 := pw_le (k := k) (by omega)
    have pd : ¬ pw k = 0 := by omega
    have g0 : 0 ≤ f / pw k * pw k := Int.mul_nonneg (Int.ediv_nonneg f0 (by omega)) (by omega)
    have g1 : f / pw k * pw k ≤ f := Int.ediv_mul_le f pd
    have g2 : 0 ≤ f / pw k := Int.ediv_nonneg f0 (by omega)
    have g3 : f / pw k ≤ f := Int.ediv_le_self (pw k) f0
    apply hK
    go_wp2_with fail
    refine (l1Pow2_any (k : Int) _ (by omega) (by omega)).mono ?_
    rintro e w2 ⟨rfl, rfl⟩
    rw [Int.toNat_natCast]
    go_wp2_with fail
    have R4 := ((((unhide RA2).set 0 (.int .i64 6)).set 1 (.int .i64 (f / pw k * pw k * 64 + bits))).set 2 (.string ⟨#[]⟩)).set 3 (.string ⟨#[]⟩)
    have e0 := R4.at (o := 0) (v := .int .i64 6) rfl
    have e1 := R4.at (o := 1) (v := .int .i64 (f / pw k * pw k * 64 + bits)) rfl
    have e2 := R4.at (o := 2) (v := .string ⟨#[]⟩) rfl
    have e3 := R4.at (o := 3) (v := .string ⟨#[]⟩) rfl
    clear c0 c1 c2 c3 f0' f1' f2' f3' z0
    exact bodyPost_ret (v := .agg #[.int .i64 6, .int .i64 (f / pw k * pw k * 64 + bits), .string ⟨#[]⟩, .string ⟨#[]⟩]) (by simp [results, Try.results29, go_sem, e0, e1, e2, e3]) rfl ⟨⟨_, by omega, by omega, rfl⟩, (((((unhide hc2).mono (by omega)).setAbove _ hlt).setAbove _ hlt).setAbove _ hlt).setAbove _ hlt, (((((unhide B1).trans (unhide hb2)).setNew _).setNew _).setNew _).setNew _⟩
  have HC1d : Hid (CurOk w1.drew b (m + 2)) := HC1
  have B1d : Hid (But b w1 w1.drew) := hide ⟨rfl, rfl, rfl, Nat.le_refl _, fun _ _ _ => rfl⟩
  have B0d : Hid (But b w1 w1) := hide (But.refl b w1)
  have hlt1 : b < w1.heap.size := (unhide HC1).lt
  clear cj HC RA B1
  go_region_with ((go_at_call 9; apply pick_then; (focus (first | assumption | (apply cur_ald; assumption) | (apply cur_al; assumption))); (focus omega); (focus omega); (focus omega); intro w' j' hj' hc' hb'; have hl' := (unhide hc').lt; (try ((fail_if_success (have := ‹FourAt _ _›)); obtain ⟨v', v0', v1', hv', fn'⟩ := four_both j' (by omega))); (try (first | have rw' := row_drew hb' (by omega) | have rw' := row_first hb' rfl (by omega) | have rw' := row_then hb' (by assumption) (by omega))); (try (have cl' := cell_four rw' ‹FourAt _ _›))))
  all_goals
    refine tail _ _ _ _ _ _ _ _ _ _ _ _ _ _ _ _ _ _ _ ?_ ?_ ?_ ?_
    · simp only [IntKind.wrap_i64]; omega
    · simp only [IntKind.wrap_i64]; omega
    · first | assumption | (apply cur_al; assumption)
    · repeat (first | assumption | apply but_al | apply but_ald | (apply but_step; (focus assumption)))
end Go.Proofs.Ytlnmhjihfolliaa.V
