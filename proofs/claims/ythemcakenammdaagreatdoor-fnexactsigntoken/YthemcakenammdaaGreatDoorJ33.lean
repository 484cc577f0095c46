/- WSli, WRead, one behind the other. -/
import Derived.Test.YthemcakenammdaaGreatDoorJ15
import Derived.Test.YthemcakenammdaaGreatDoorQAtm
import Derived.ProofKit
import Derived.Deep.Slices
/- WSli, ported from seat 1a. -/
namespace Go.Proofs.YthemcakenammdaaGreatDoor.V
open Go.RowKit

set_option maxHeartbeats 400000 in
theorem szAtomS_any (a : Option Addr) (len cap : Nat) (l : List AtomT) (left : Int) (w : World) (h0 : 0 ≤ left) (h1 : left ≤ 1048576) (hl : len ≤ maxLen) (hs : SlA w a len l) (hok : ∀ q ∈ l, AtomT.Ok q) :
    Calls Tryz.prog 10 #[.slice a len cap, .int .i64 left] w fun e w' => (∃ m : Int, -1 ≤ m ∧ m ≤ left ∧ (0 ≤ m → (len : Int) ≤ left) ∧ e = .returned (.int .i64 m)) ∧ Below w.heap.size w w' := by
  unfold maxLen at hl
  by_cases hlen : left < (len : Int)
  · go_enter Tryz.func10, Tryz.ntmps10
    go_wp2
    go_ret
    exact ⟨⟨-1, by omega, by omega, by omega, rfl⟩, Below.refl _ _⟩
  have d1 : decide (left - (len : Int) < 0) = false := by simp; omega
  have HS := hide hs
  clear hs
  go_enter Tryz.func10, Tryz.ntmps10
  go_wp2
  go_loopw [1, 5] (fun m i w' => ∃ (k : Nat) (q : Int), k ≤ len ∧ 0 ≤ q ∧ q ≤ left ∧ i = .int .i64 k ∧ m = .int .i64 q ∧ Below w.heap.size w w') (fun _ i _ => len - (intOf i).toNat)
  case atStart => exact ⟨0, _, Nat.zero_le _, by omega, by omega, rfl, rfl, Below.refl _ _⟩
  case round =>
    obtain ⟨k, q, hk, hq1, hq2, rfl, rfl, hbel⟩ := hrel
    by_cases hlt : k < len
    · obtain ⟨b, off, rfl, hrow⟩ := ((unhide HS).keep hbel).at hlt
      have hk' : k < l.length := by rw [← (unhide HS).1]; exact hlt
      obtain ⟨c0, c1, c2, c3⟩ := hrow.c k hk'
      have ho := hok _ (List.getElem_mem hk')
      have hz := hide (fun q w h0 h1 => szAtom_any (l[k]).x (l[k]).n q (l[k]).t (l[k]).y w h0 h1 ho.t9 ho.y9)
      clear hrow ho hok
      generalize l[k] = A at hz c0 c1 c2 c3
      go_wp2_with fail
      refine (unhide hz _ _ (by omega) (by omega)).mono ?_
      rintro e w1 ⟨⟨m, hm1, hm2, rfl⟩, hb1⟩
      by_cases hm : m < 0
      · go_wp2_with fail
        go_ret
        exact ⟨⟨-1, by omega, by omega, by omega, rfl⟩, bTr hbel hb1⟩
      · go_wp2_with fail
        exact ⟨⟨k + 1, m, by omega, by omega, by omega, by go_num, rfl, bTr hbel hb1⟩, by simp [intOf]; omega⟩
    · go_wp2_with fail
      go_ret
      exact ⟨⟨q, by omega, by omega, by omega, rfl⟩, hbel⟩

set_option maxHeartbeats 400000 in
theorem szStringS_any (a : Option Addr) (len cap : Nat) (l : List ByteArray) (left : Int) (w : World) (h0 : 0 ≤ left) (h1 : left ≤ 1048576) (hl : len ≤ maxLen) (hs : SlS w a len l) (hok : ∀ q ∈ l, ByteArray.size q ≤ maxLen) :
    Calls Tryz.prog 11 #[.slice a len cap, .int .i64 left] w fun e w' => (∃ m : Int, -1 ≤ m ∧ m ≤ left ∧ (0 ≤ m → (len : Int) ≤ left) ∧ e = .returned (.int .i64 m)) ∧ w = w' := by
  unfold maxLen at hl
  by_cases hlen : left < (len : Int)
  · go_enter Tryz.func11, Tryz.ntmps11
    go_wp2
    go_ret
    exact ⟨⟨-1, by omega, by omega, by omega, rfl⟩, rfl⟩
  have d1 : decide (left - (len : Int) < 0) = false := by simp; omega
  have HS := hide hs
  clear hs
  go_enter Tryz.func11, Tryz.ntmps11
  go_wp2
  go_loop [1, 5] (fun m i => ∃ (k : Nat) (q : Int), k ≤ len ∧ 0 ≤ q ∧ q ≤ left ∧ i = .int .i64 k ∧ m = .int .i64 q) (fun _ i => len - (intOf i).toNat)
  case atStart => exact ⟨0, _, Nat.zero_le _, by omega, by omega, rfl, rfl⟩
  case round =>
    obtain ⟨k, q, hk, hq1, hq2, rfl, rfl⟩ := hrel
    by_cases hlt : k < len
    · obtain ⟨b, off, rfl, hrow⟩ := (unhide HS).at hlt
      have hk' : k < l.length := by rw [← (unhide HS).1]; exact hlt
      have c0 := hrow.c k hk'
      have ho := hok _ (List.getElem_mem hk')
      clear hrow hok
      generalize l[k] = A at c0 ho
      unfold maxLen at ho
      by_cases hm : q - (A.size : Int) < 0
      · go_wp2_with fail
        go_ret
        exact ⟨⟨-1, by omega, by omega, rfl⟩, rfl⟩
      · go_wp2_with fail
        exact ⟨⟨k + 1, _, by omega, by omega, by omega, by go_num, rfl⟩, by simp [intOf]; omega⟩
    · go_wp2_with fail
      go_ret
      exact ⟨⟨q, by omega, by omega, rfl⟩, rfl⟩

/-- 'make([]impl.Atom, len)'. -/
theorem make_atoms (len : Nat) (w : World) (h : len ≤ 1048576) : ∃ w1 C, (Instr.makeSlice 31 (.int .i64 (len : Int)) (.int .i64 (len : Int))).run Tryz.prog w = .ok (.slice (some ⟨w.heap.size, 0, none⟩) len len) w1 ∧
    Below w.heap.size w w1 ∧ RowIs w1 w.heap.size C 30 ∧ C.size = len * 4 := by
  have hi : (Tryz.prog.info? 30).map (fun i => (i.zero, i.size, i.bytes)) = some (some (.agg #[.int .i64 0, .int .i64 0, .string ByteArray.empty, .string ByteArray.empty]), 4, 48) := by kernel_rfl
  obtain ⟨i, h1, h2⟩ := Option.map_eq_some_iff.1 hi
  simp only [Prod.mk.injEq] at h2
  obtain ⟨hz, hsz, hby⟩ := h2
  have hr := run_make (P := Tryz.prog) w 31 30 i _ Tryz.underlying31 h1 hz .i64 .i64 (len : Int) (len : Int) (by omega) (by omega) (by rw [hby]; omega) (by omega)
  rw [Int.toNat_natCast, hsz] at hr
  exact ⟨_, _, hr, bAl (Below.refl _ _) _, RowIs.new _ _ _, size_madeCells _ _⟩

theorem make_strings (len : Nat) (w : World) (h : len ≤ 1048576) : ∃ w1 C, (Instr.makeSlice 25 (.int .i64 (len : Int)) (.int .i64 (len : Int))).run Tryz.prog w = .ok (.slice (some ⟨w.heap.size, 0, none⟩) len len) w1 ∧
    Below w.heap.size w w1 ∧ RowIs w1 w.heap.size C 9 ∧ C.size = len := by
  have hi : (Tryz.prog.info? 9).map (fun i => (i.zero, i.size, i.bytes)) = some (some (.string ByteArray.empty), 1, 16) := by kernel_rfl
  obtain ⟨i, h1, h2⟩ := Option.map_eq_some_iff.1 hi
  simp only [Prod.mk.injEq] at h2
  obtain ⟨hz, hsz, hby⟩ := h2
  have hr := run_make (P := Tryz.prog) w 25 9 i _ Tryz.underlying25 h1 hz .i64 .i64 (len : Int) (len : Int) (by omega) (by omega) (by rw [hby]; omega) (by omega)
  rw [Int.toNat_natCast, hsz, Nat.mul_one] at hr
  exact ⟨_, _, hr, bAl (Below.refl _ _) _, RowIs.new _ _ _, size_madeCells _ _⟩

set_option maxHeartbeats 400000 in
theorem toStringS_any (a : Option Addr) (len cap : Nat) (l : List ByteArray) (w : World) (hl : len ≤ 1048576) (hs : SlS w a len l) :
    Calls Tryz.prog 21 #[.slice a len cap] w fun e w' => e = .returned (.slice (some ⟨w.heap.size, 0, none⟩) len len) ∧ StrRow w' w.heap.size 0 l ∧ Below w.heap.size w w' := by
  obtain ⟨w1, C1, hrun, hb1, hr1, hC1⟩ := make_strings len w hl
  have HS := hide hs
  have HB1 := hide hb1
  have HR1 := hide hr1
  clear hs hb1 hr1
  go_enter Tryz.func21, Tryz.ntmps21
  go_wp2
  clear hrun
  go_loopw [4] (fun i w' => ∃ (k : Nat) (C : Array Value), k ≤ len ∧ i = .int .i64 k ∧ Hid (Below w.heap.size w w') ∧ Hid (RowIs w' w.heap.size C 9) ∧ Hid (C.size = len) ∧ Hid (FilledS C l k)) (fun i _ => len - (intOf i).toNat)
  case atStart => exact ⟨0, C1, Nat.zero_le _, rfl, HB1, HR1, hide hC1, hide (fun i _ h => absurd h (Nat.not_lt_zero _))⟩
  case round =>
    obtain ⟨k, C, hk, rfl, hb, hr, hC, hF⟩ := hrel
    by_cases hlt : k < len
    · obtain ⟨b, off, rfl, hrow⟩ := ((unhide HS).keep (unhide hb)).at hlt
      have hk' : k < l.length := by rw [← (unhide HS).1]; exact hlt
      have c0 := hrow.c k hk'
      have fr := (unhide hr).froz k
      have hck : k < C.size := by rw [unhide hC]; exact hlt
      have c1 := (unhide hr).cell k
      rw [Array.getElem?_eq_getElem hck] at c1
      have hz : w.heap.size < wr.heap.size := (unhide hr).lt
      have hF' := hide ((unhide hF).set hk' (by rw [unhide hC]; exact (unhide HS).1))
      clear hrow hC1
      generalize l[k] = A at c0 hF'
      generalize C[k] = D at c1
      go_wp2_with fail
      exact ⟨⟨k + 1, C.setIfInBounds k (.string A), by omega, by go_num, hide ((unhide hb).setCell (Nat.le_refl _) _), hide ((unhide hr).set k _), hide (by rw [Array.size_setIfInBounds]; exact unhide hC), hF'⟩, by simp [intOf]; omega⟩
    · go_wp2_with fail
      go_ret
      have e : k = l.length := by rw [← (unhide HS).1]; omega
      exact ⟨rfl, FilledS.row (by rw [← e]; exact unhide hF) (unhide hr), unhide hb⟩
set_option maxHeartbeats 400000 in
theorem toAtomS_any (a : Option Addr) (len cap : Nat) (l : List AtomT) (w : World) (hl : len ≤ 1048576) (hs : SlA w a len l) :
    Calls Tryz.prog 20 #[.slice a len cap] w fun e w' => e = .returned (.slice (some ⟨w.heap.size, 0, none⟩) len len) ∧ AtomRow w' w.heap.size 0 l ∧ Below w.heap.size w w' := by
  obtain ⟨w1, C1, hrun, hb1, hr1, hC1⟩ := make_atoms len w hl
  have HS := hide hs
  have HB1 := hide hb1
  have HR1 := hide hr1
  clear hs hb1 hr1
  go_enter Tryz.func20, Tryz.ntmps20
  go_wp2
  clear hrun
  go_loopw [4] (fun i w' => ∃ (k : Nat) (C : Array Value), k ≤ len ∧ i = .int .i64 k ∧ Hid (Below w.heap.size w w') ∧ Hid (RowIs w' w.heap.size C 30) ∧ Hid (C.size = len * 4) ∧ Hid (Filled C l k)) (fun i _ => len - (intOf i).toNat)
  case atStart => exact ⟨0, C1, Nat.zero_le _, rfl, HB1, HR1, hide hC1, hide (fun i _ h => absurd h (Nat.not_lt_zero _))⟩
  case round =>
    obtain ⟨k, C, hk, rfl, hb, hr, hC, hF⟩ := hrel
    by_cases hlt : k < len
    · obtain ⟨b, off, rfl, hrow⟩ := ((unhide HS).keep (unhide hb)).at hlt
      have hk' : k < l.length := by rw [← (unhide HS).1]; exact hlt
      obtain ⟨c0, c1, c2, c3⟩ := hrow.c k hk'
      have hF' := hide ((unhide hF).set hk' (by rw [unhide hC, (unhide HS).1]))
      clear hrow hC1
      generalize l[k] = A at c0 c1 c2 c3 hF'
      go_wp2_with fail
      refine (toAtom_any _ _ _ _ _).mono ?_
      rintro e w2 ⟨rfl, hb2⟩
      replace hr := hide ((unhide hr).keep hb2)
      replace hb := hide (bTr (unhide hb) hb2)
      have f0 := (unhide hr).froz (k * 4)
      have f1 := (unhide hr).froz (k * 4 + 1)
      have f2 := (unhide hr).froz (k * 4 + 2)
      have f3 := (unhide hr).froz (k * 4 + 3)
      have s3 : k * 4 + 3 < C.size := by rw [unhide hC]; omega
      have g0 := (unhide hr).cell (k * 4)
      have g1 := (unhide hr).cell (k * 4 + 1)
      have g2 := (unhide hr).cell (k * 4 + 2)
      have g3 := (unhide hr).cell (k * 4 + 3)
      rw [Array.getElem?_eq_getElem (by omega)] at g0 g1 g2 g3
      generalize C[k * 4] = D0 at g0
      generalize C[k * 4 + 1] = D1 at g1
      generalize C[k * 4 + 2] = D2 at g2
      generalize C[k * 4 + 3] = D3 at g3
      clear c0 c1 c2 c3 hb2
      go_wp2_with fail
      refine ⟨⟨k + 1, set4 C k A, by omega, by go_num, hide ?_, hide ?_, hide (by rw [size_set4]; exact unhide hC), hF'⟩, by simp [intOf]; omega⟩
      · exact ((((unhide hb).setCell (Nat.le_refl _) _).setCell (Nat.le_refl _) _).setCell (Nat.le_refl _) _).setCell (Nat.le_refl _) _
      · exact ((((unhide hr).set _ _).set _ _).set _ _).set _ _
    · go_wp2_with fail
      go_ret
      have e : k = l.length := by rw [← (unhide HS).1]; omega
      exact ⟨rfl, Filled.row (by rw [← e]; exact unhide hF) (unhide hr), unhide hb⟩

set_option maxHeartbeats 1000000 in
theorem szValue_any (v : ValT) (hv : v.Ok) (a1 a2 : Option Addr) (l1 c1 l2 c2 : Nat) (left : Int) (w : World) (h0 : 0 ≤ left) (h1 : left ≤ 1048576) (hl1 : l1 ≤ maxLen) (hl2 : l2 ≤ maxLen)
    (hs1 : SlA w a1 l1 v.items) (hs2 : SlS w a2 l2 v.names) :
    Calls Tryz.prog 4 #[.agg #[.int .i64 v.k, .int .i64 v.a.x, .int .i64 v.a.n, .string v.a.t, .string v.a.y, .slice a1 l1 c1, .slice a2 l2 c2], .int .i64 left] w
      fun e w' => (∃ m : Int, -1 ≤ m ∧ m ≤ left ∧ (0 ≤ m → (l1 : Int) ≤ left ∧ (l2 : Int) ≤ left) ∧ e = .returned (.int .i64 m)) ∧ Below w.heap.size w w' := by
  have q1 := hide (fun q w h0 h1 => szAtom_any v.a.x v.a.n q v.a.t v.a.y w h0 h1 hv.a.t9 hv.a.y9)
  have q2 := hide (fun q w h0 h1 hs => szAtomS_any a1 l1 c1 v.items q w h0 h1 hl1 hs hv.items)
  have q3 := hide (fun q w h0 h1 hs => szStringS_any a2 l2 c2 v.names q w h0 h1 hl2 hs hv.names)
  have HS1 := hide hs1
  have HS2 := hide hs2
  clear hs1 hs2 hv hl1 hl2
  go_enter Tryz.func4, Tryz.ntmps4
  go_wp2_with fail
  refine (unhide q1 _ _ (by omega) (by omega)).mono ?_
  rintro e w1 ⟨⟨m1, ha1, ha2, rfl⟩, hb1⟩
  have bw := bTr (bAl (Below.refl _ _) _) hb1
  have qv := (ValAt.new w v (.slice a1 l1 c1) (.slice a2 l2 c2) 27).keep hb1
  obtain ⟨_, _, _, _, _, d5, _, _⟩ := hide qv
  clear hb1
  by_cases g1 : m1 < 0
  · go_wp2_with fail
    go_ret
    exact ⟨⟨-1, by omega, by omega, by omega, rfl⟩, bw⟩
  go_wp2_with fail
  refine (unhide q2 _ _ (by omega) (by omega) ((unhide HS1).keep bw)).mono ?_
  rintro e w2 ⟨⟨m2, hb1, hb2, hb3, rfl⟩, hb4⟩
  replace bw := bTr bw hb4
  replace qv := qv.keep hb4
  clear d5 hb4
  obtain ⟨_, _, _, _, _, _, d6, _⟩ := hide qv
  by_cases g2 : m2 < 0
  · go_wp2_with fail
    go_ret
    exact ⟨⟨-1, by omega, by omega, by omega, rfl⟩, bw⟩
  go_wp2_with fail
  refine (unhide q3 _ _ (by omega) (by omega) ((unhide HS2).keep bw)).mono ?_
  rintro e w3 ⟨⟨m3, hc1, hc2, hc3, rfl⟩, rfl⟩
  by_cases g3 : m3 < 0
  · go_wp2_with fail
    go_ret
    exact ⟨⟨-1, by omega, by omega, by omega, rfl⟩, bw⟩
  go_wp2_with fail
  go_ret
  exact ⟨⟨m3, by omega, by omega, by omega, rfl⟩, bw⟩

set_option maxHeartbeats 1000000 in
theorem toValue_any (v : ValT) (a1 a2 : Option Addr) (l1 c1 l2 c2 : Nat) (w : World) (hl1 : l1 ≤ 1048576) (hl2 : l2 ≤ 1048576)
    (hs1 : SlA w a1 l1 v.items) (hs2 : SlS w a2 l2 v.names) :
    Calls Tryz.prog 6 #[.agg #[.int .i64 v.k, .int .i64 v.a.x, .int .i64 v.a.n, .string v.a.t, .string v.a.y, .slice a1 l1 c1, .slice a2 l2 c2]] w
      fun e w' => ∃ b1 b2, e = .returned (.agg #[.int .i64 v.k, .int .i64 v.a.x, .int .i64 v.a.n, .string v.a.t, .string v.a.y, .slice (some ⟨b1, 0, none⟩) l1 l1, .slice (some ⟨b2, 0, none⟩) l2 l2])
        ∧ AtomRow w' b1 0 v.items ∧ StrRow w' b2 0 v.names ∧ Below w.heap.size w w' := by
  have q2 : Hid (∀ w, SlA w a1 l1 v.items → Calls Tryz.prog 20 #[.slice a1 l1 c1] w fun e w' => ∃ b, e = .returned (.slice (some ⟨b, 0, none⟩) l1 l1) ∧ w.heap.size ≤ b ∧ AtomRow w' b 0 v.items ∧ Below w.heap.size w w') :=
    hide (fun w hs => (toAtomS_any a1 l1 c1 v.items w hl1 hs).mono fun _ _ h => ⟨_, h.1, Nat.le_refl _, h.2.1, h.2.2⟩)
  have q3 : Hid (∀ w, SlS w a2 l2 v.names → Calls Tryz.prog 21 #[.slice a2 l2 c2] w fun e w' => ∃ b, e = .returned (.slice (some ⟨b, 0, none⟩) l2 l2) ∧ w.heap.size ≤ b ∧ StrRow w' b 0 v.names ∧ Below w.heap.size w w') :=
    hide (fun w hs => (toStringS_any a2 l2 c2 v.names w hl2 hs).mono fun _ _ h => ⟨_, h.1, Nat.le_refl _, h.2.1, h.2.2⟩)
  have HS1 := hide hs1
  have HS2 := hide hs2
  clear hs1 hs2 hl1 hl2
  go_enter Tryz.func6, Tryz.ntmps6
  go_wp2_with fail
  refine (toAtom_any _ _ _ _ _).mono ?_
  rintro e w1 ⟨rfl, hb1⟩
  have src := ((((ValAt.new w v (.slice a1 l1 c1) (.slice a2 l2 c2) 27).more _).more _).keep hb1)
  have bw := bTr (bAl (bAl (bAl (Below.refl _ _) _) _) _) hb1
  have ro := ((RowIs.new (w.alloc _) _ _).keep (bAl (Below.refl _ _) _)).keep hb1
  have out := (RowIs.new ((w.alloc _).alloc _) _ _).keep hb1
  simp only [World.size_alloc] at ro out
  clear hb1
  have f1 := out.froz 1
  have f2 := out.froz 2
  have f3 := out.froz 3
  have f4 := out.froz 4
  have k1 : w1.cell? ⟨w.heap.size + 1 + 1, 1, none⟩ = some (.int .i64 0) := out.at rfl
  have k2 : w1.cell? ⟨w.heap.size + 1 + 1, 2, none⟩ = some (.int .i64 0) := out.at rfl
  have k3 : w1.cell? ⟨w.heap.size + 1 + 1, 3, none⟩ = some (.string ⟨#[]⟩) := out.at rfl
  have k4 : w1.cell? ⟨w.heap.size + 1 + 1, 4, none⟩ = some (.string ⟨#[]⟩) := out.at rfl
  have d5 := src.c5
  have n1 : w.heap.size ≠ w.heap.size + 1 + 1 := by omega
  have n2 : w.heap.size + 1 ≠ w.heap.size + 1 + 1 := by omega
  obtain ⟨W1, hW1⟩ : ∃ W, W = (((w1.setCell ⟨w.heap.size + 1 + 1, 1, none⟩ (.int .i64 v.a.x)).setCell ⟨w.heap.size + 1 + 1, 2, none⟩ (.int .i64 v.a.n)).setCell ⟨w.heap.size + 1 + 1, 3, none⟩ (.string v.a.t)).setCell ⟨w.heap.size + 1 + 1, 4, none⟩ (.string v.a.y) := ⟨_, rfl⟩
  have HW1 := hide hW1
  replace out : RowIs W1 (w.heap.size + 1 + 1) #[.int .i64 v.k, .int .i64 v.a.x, .int .i64 v.a.n, .string v.a.t, .string v.a.y, .slice none 0 0, .slice none 0 0] 33 := by
    rw [hW1]; exact (((out.set 1 (.int .i64 v.a.x)).set 2 (.int .i64 v.a.n)).set 3 (.string v.a.t)).set 4 (.string v.a.y)
  replace src : ValAt W1 w.heap.size v (.slice a1 l1 c1) (.slice a2 l2 c2) := by rw [hW1]; exact (((src.setOther _ n1).setOther _ n1).setOther _ n1).setOther _ n1
  replace ro : RowIs W1 (w.heap.size + 1) #[.int .i64 0, .int .i64 0, .int .i64 0, .string ⟨#[]⟩, .string ⟨#[]⟩, .slice none 0 0, .slice none 0 0] 33 := by rw [hW1]; exact (((ro.setOther _ n2).setOther _ n2).setOther _ n2).setOther _ n2
  replace bw : Below w.heap.size w W1 := by rw [hW1]; exact (((bw.setCell (by simp; omega) _).setCell (by simp; omega) _).setCell (by simp; omega) _).setCell (by simp; omega) _
  clear hW1
  go_wp2_with fail
  rw [← unhide HW1]
  clear f1 f2 f3 f4 k1 k2 k3 k4 d5 HW1
  refine (unhide q2 _ ((unhide HS1).keep bw)).mono ?_
  rintro e w2 ⟨b1, rfl, hb1, hrow1, hb⟩
  have nb1 : b1 ≠ w.heap.size + 1 + 1 := by have := out.lt; omega
  have mb1 : b1 ≠ w.heap.size + 1 := by have := out.lt; omega
  replace out := out.keep hb
  replace src := src.keep hb
  replace ro := ro.keep hb
  replace bw := bTr bw hb
  clear hb hb1
  have f5 := out.froz 5
  have k5 : w2.cell? ⟨w.heap.size + 1 + 1, 5, none⟩ = some (.slice none 0 0) := out.at rfl
  have d6 := src.c6
  obtain ⟨W2, hW2⟩ : ∃ W, W = w2.setCell ⟨w.heap.size + 1 + 1, 5, none⟩ (.slice (some ⟨b1, 0, none⟩) l1 l1) := ⟨_, rfl⟩
  have HW2 := hide hW2
  replace out : RowIs W2 (w.heap.size + 1 + 1) #[.int .i64 v.k, .int .i64 v.a.x, .int .i64 v.a.n, .string v.a.t, .string v.a.y, .slice (some ⟨b1, 0, none⟩) l1 l1, .slice none 0 0] 33 := by
    rw [hW2]; exact out.set 5 _
  replace ro : RowIs W2 (w.heap.size + 1) #[.int .i64 0, .int .i64 0, .int .i64 0, .string ⟨#[]⟩, .string ⟨#[]⟩, .slice none 0 0, .slice none 0 0] 33 := by rw [hW2]; exact ro.setOther _ n2
  replace hrow1 : AtomRow W2 b1 0 v.items := by rw [hW2]; exact hrow1.setOther _ nb1
  replace bw : Below w.heap.size w W2 := by rw [hW2]; exact bw.setCell (by simp; omega) _
  clear hW2 src
  go_wp2_with fail
  rw [← unhide HW2]
  clear f5 k5 d6 HW2
  refine (unhide q3 _ ((unhide HS2).keep bw)).mono ?_
  rintro e w3 ⟨b2, rfl, hb2, hrow2, hb⟩
  have nb2 : b2 ≠ w.heap.size + 1 + 1 := by have := out.lt; omega
  have mb2 : b2 ≠ w.heap.size + 1 := by have := out.lt; omega
  replace out := out.keep hb
  replace ro := ro.keep hb
  replace bw := bTr bw hb
  replace hrow1 := hrow1.keep hb
  clear hb hb2 q2 q3
  have f6 := out.froz 6
  have k0 : w3.cell? ⟨w.heap.size + 1 + 1, 0, none⟩ = some (.int .i64 v.k) := out.at rfl
  have k1 : w3.cell? ⟨w.heap.size + 1 + 1, 1, none⟩ = some (.int .i64 v.a.x) := out.at rfl
  have k2 : w3.cell? ⟨w.heap.size + 1 + 1, 2, none⟩ = some (.int .i64 v.a.n) := out.at rfl
  have k3 : w3.cell? ⟨w.heap.size + 1 + 1, 3, none⟩ = some (.string v.a.t) := out.at rfl
  have k4 : w3.cell? ⟨w.heap.size + 1 + 1, 4, none⟩ = some (.string v.a.y) := out.at rfl
  have k5 : w3.cell? ⟨w.heap.size + 1 + 1, 5, none⟩ = some (.slice (some ⟨b1, 0, none⟩) l1 l1) := out.at rfl
  have k6 : w3.cell? ⟨w.heap.size + 1 + 1, 6, none⟩ = some (.slice none 0 0) := out.at rfl
  have g0 := ro.froz 0
  have g1 := ro.froz 1
  have g2 := ro.froz 2
  have g3 := ro.froz 3
  have g4 := ro.froz 4
  have g5 := ro.froz 5
  have g6 := ro.froz 6
  have j0 : w3.cell? ⟨w.heap.size + 1, 0, none⟩ = some (.int .i64 0) := ro.at rfl
  have j1 : w3.cell? ⟨w.heap.size + 1, 1, none⟩ = some (.int .i64 0) := ro.at rfl
  have j2 : w3.cell? ⟨w.heap.size + 1, 2, none⟩ = some (.int .i64 0) := ro.at rfl
  have j3 : w3.cell? ⟨w.heap.size + 1, 3, none⟩ = some (.string ⟨#[]⟩) := ro.at rfl
  have j4 : w3.cell? ⟨w.heap.size + 1, 4, none⟩ = some (.string ⟨#[]⟩) := ro.at rfl
  have j5 : w3.cell? ⟨w.heap.size + 1, 5, none⟩ = some (.slice none 0 0) := ro.at rfl
  have j6 : w3.cell? ⟨w.heap.size + 1, 6, none⟩ = some (.slice none 0 0) := ro.at rfl
  clear out ro
  go_wp2_with fail
  refine bodyPost_ret (v := .agg #[.int .i64 v.k, .int .i64 v.a.x, .int .i64 v.a.n, .string v.a.t, .string v.a.y, .slice (some ⟨b1, 0, none⟩) l1 l1, .slice (some ⟨b2, 0, none⟩) l2 l2]) (by simp [results, Tryz.results6, go_sem, j0, j1, j2, j3, j4, j5, j6]) rfl ⟨b1, b2, rfl, ?_, ?_, ?_⟩
  · exact (((((((hrow1.setOther _ nb1).setOther _ mb1).setOther _ mb1).setOther _ mb1).setOther _ mb1).setOther _ mb1).setOther _ mb1).setOther _ mb1
  · exact (((((((hrow2.setOther _ nb2).setOther _ mb2).setOther _ mb2).setOther _ mb2).setOther _ mb2).setOther _ mb2).setOther _ mb2).setOther _ mb2
  · exact (((((((bw.setCell (by simp; omega) _).setCell (by simp) _).setCell (by simp) _).setCell (by simp) _).setCell (by simp) _).setCell (by simp) _).setCell (by simp) _).setCell (by simp) _
end Go.Proofs.YthemcakenammdaaGreatDoor.V
/- WRead, ported from seat 1a. -/
namespace Go.Proofs.YthemcakenammdaaGreatDoor.V
set_option maxRecDepth 100000
open Go.ChangeShapes Go.WideShapes Go.RowKit

section
variable {H : Type} {enc : TypeId × Value → H} {w : World} {base : Nat} {sp : Nat → Bool} {held : Bool}

theorem list4 {α : Type} {l : List α} (h : l.length = 4) : ∃ a b c d, l = [a, b, c, d] := by
  match l, h with
  | [a, b, c, d], _ => exact ⟨a, b, c, d, rfl⟩
theorem list7 {α : Type} {l : List α} (h : l.length = 7) : ∃ a b c d e f g, l = [a, b, c, d, e, f, g] := by
  match l, h with
  | [a, b, c, d, e, f, g], _ => exact ⟨a, b, c, d, e, f, g, rfl⟩

theorem addr_add (b off k : Nat) : (⟨b, off, none⟩ : Addr).add k = ⟨b, off + k, none⟩ := by
  unfold Addr.add; split <;> simp_all

theorem read_atom {n : Nat} {cs : List Value} {x : DataW H × List MemPlace} (h : DataW.trod enc Tryz.prog w base sp held n 23 cs = some x) :
    ∃ A : AtomT, cs = [.int .i64 A.x, .int .i64 A.n, .string A.t, .string A.y] ∧ A.Ok := by
  obtain ⟨xs, m, rfl, _, hlen, hx, hf⟩ := DataW.trod_struct Tryz.underlying23 h
  have hc : Tryz.prog.cellsOf 23 = 4 := by kernel_rfl
  have k3 : Tryz.prog.cellsOf 3 = 1 := by kernel_rfl
  have k9 : Tryz.prog.cellsOf 9 = 1 := by kernel_rfl
  obtain ⟨c0, c1, c2, c3, rfl⟩ := list4 (hlen.trans hc)
  obtain ⟨x0, x1, x2, x3, rfl⟩ := list4 hx
  have h0 : DataW.trod enc Tryz.prog w base sp held m 3 [c0] = some x0 := by have := hf 0 _ rfl; simpa [k3] using this
  have h1 : DataW.trod enc Tryz.prog w base sp held m 3 [c1] = some x1 := by have := hf 1 _ rfl; simpa [k3] using this
  have h2 : DataW.trod enc Tryz.prog w base sp held m 9 [c2] = some x2 := by have := hf 2 _ rfl; simpa [k9] using this
  have h3 : DataW.trod enc Tryz.prog w base sp held m 9 [c3] = some x3 := by have := hf 3 _ rfl; simpa [k9] using this
  obtain ⟨a, q0, _, _⟩ := DataW.trod_int Tryz.underlying3 h0
  obtain ⟨b, q1, _, wb⟩ := DataW.trod_int Tryz.underlying3 h1
  obtain ⟨s, q2, _, ws⟩ := DataW.trod_string Tryz.underlying9 h2
  obtain ⟨r, q3, _, wr⟩ := DataW.trod_string Tryz.underlying9 h3
  simp at q0 q1 q2 q3
  subst q0 q1 q2 q3
  refine ⟨⟨a, b, s, r⟩, rfl, ?_, ?_, ws, wr⟩
  · have := wb
    simp [Lit.wf, IntKind.min, IntKind.max, IntKind.signed, IntKind.bits] at this
    show _ ≤ b
    omega
  · have := wb
    simp [Lit.wf, IntKind.min, IntKind.max, IntKind.signed, IntKind.bits] at this
    show b ≤ _
    omega

theorem read_atoms {n len cap : Nat} {a : Option Addr} {x : DataW H × List MemPlace} (h : DataW.trod enc Tryz.prog w base sp held n 24 [.slice a len cap] = some x) :
    ∃ l : List AtomT, SlA w a len l ∧ (∀ q ∈ l, AtomT.Ok q) ∧ len ≤ maxLen := by
  have hc : Tryz.prog.cellsOf 23 = 4 := by kernel_rfl
  rcases Go.Deep.open_slice Tryz.underlying24 h with ⟨hcs, _⟩ | ⟨a', len', cap', m, n', D, Pl, hcs, _, hl, hm, hmm, _, hel⟩
  · simp at hcs
    obtain ⟨rfl, rfl, rfl⟩ := hcs
    exact ⟨[], ⟨rfl, .inl rfl⟩, by simp, Nat.zero_le _⟩
  · simp at hcs
    obtain ⟨rfl, rfl, rfl⟩ := hcs
    have hlm : len ≤ m := by rw [hmm]; split <;> omega
    by_cases h0 : len = 0
    · subst h0; exact ⟨[], ⟨rfl, .inl rfl⟩, by simp, Nat.zero_le _⟩
    have hspot : a'.spot = none := by
      obtain ⟨cs', h1, h2⟩ := hel 0 (by omega)
      rw [hc] at h1
      obtain ⟨A, rfl, _⟩ := read_atom h2
      have e0 := (World.cells?_some h1).2.2 0 (by omega)
      simp [Addr.add] at e0
      exact World.cell?_spot e0
    obtain ⟨b, off, spot⟩ := a'
    simp only at hspot
    subst hspot
    have hA : ∀ i, i < len → ∃ A : AtomT, A.Ok ∧ AtomIn w b (off + i * 4) A ∧ b < w.heap.size := by
      intro i hi
      obtain ⟨cs', h1, h2⟩ := hel i (by omega)
      rw [hc, addr_add] at h1
      obtain ⟨A, rfl, hok⟩ := read_atom h2
      have h3 := (World.cells?_some h1).2.2
      have e0 := h3 0 (by omega)
      have e1 := h3 1 (by omega)
      have e2 := h3 2 (by omega)
      have e3 := h3 3 (by omega)
      rw [addr_add] at e0 e1 e2 e3
      exact ⟨A, hok, ⟨e0, e1, e2, e3⟩, World.block_lt_of_cell? w ⟨b, off + i * 4 + 0, none⟩ e0⟩
    obtain ⟨f, hf⟩ := @Go.Deep.choose_lt AtomT ⟨⟨0, 0, ⟨#[]⟩, ⟨#[]⟩⟩⟩ len (fun i A => A.Ok ∧ AtomIn w b (off + i * 4) A ∧ b < w.heap.size) hA
    refine ⟨(List.range len).map f, ⟨by simp, .inr ⟨b, off, rfl, (hf 0 (by omega)).2.2, fun i hi => ?_⟩⟩, ?_, by omega⟩
    · simp at hi
      have := (hf i hi).2.1
      simpa using this
    · intro q hq
      simp at hq
      obtain ⟨i, hi, rfl⟩ := hq
      exact (hf i hi).1

theorem read_strings {n len cap : Nat} {a : Option Addr} {x : DataW H × List MemPlace} (h : DataW.trod enc Tryz.prog w base sp held n 25 [.slice a len cap] = some x) :
    ∃ l : List ByteArray, SlS w a len l ∧ (∀ q ∈ l, ByteArray.size q ≤ maxLen) ∧ len ≤ maxLen := by
  have hc : Tryz.prog.cellsOf 9 = 1 := by kernel_rfl
  rcases Go.Deep.open_slice Tryz.underlying25 h with ⟨hcs, _⟩ | ⟨a', len', cap', m, n', D, Pl, hcs, _, hl, hm, hmm, _, hel⟩
  · simp at hcs
    obtain ⟨rfl, rfl, rfl⟩ := hcs
    exact ⟨[], ⟨rfl, .inl rfl⟩, by simp, Nat.zero_le _⟩
  · simp at hcs
    obtain ⟨rfl, rfl, rfl⟩ := hcs
    have hlm : len ≤ m := by rw [hmm]; split <;> omega
    by_cases h0 : len = 0
    · subst h0; exact ⟨[], ⟨rfl, .inl rfl⟩, by simp, Nat.zero_le _⟩
    have hspot : a'.spot = none := by
      obtain ⟨cs', h1, h2⟩ := hel 0 (by omega)
      rw [hc] at h1
      obtain ⟨s, rfl, _, _⟩ := DataW.trod_string Tryz.underlying9 h2
      have e0 := (World.cells?_some h1).2.2 0 (by omega)
      simp [Addr.add] at e0
      exact World.cell?_spot e0
    obtain ⟨b, off, spot⟩ := a'
    simp only at hspot
    subst hspot
    have hA : ∀ i, i < len → ∃ A : ByteArray, A.size ≤ maxLen ∧ w.cell? ⟨b, off + i, none⟩ = some (.string A) ∧ b < w.heap.size := by
      intro i hi
      obtain ⟨cs', h1, h2⟩ := hel i (by omega)
      rw [hc, addr_add, Nat.mul_one] at h1
      obtain ⟨s, rfl, _, hs⟩ := DataW.trod_string Tryz.underlying9 h2
      have e0 := (World.cells?_some h1).2.2 0 (by omega)
      rw [addr_add] at e0
      exact ⟨s, hs, e0, World.block_lt_of_cell? w ⟨b, off + i + 0, none⟩ e0⟩
    obtain ⟨f, hf⟩ := @Go.Deep.choose_lt ByteArray ⟨⟨#[]⟩⟩ len (fun i A => A.size ≤ maxLen ∧ w.cell? ⟨b, off + i, none⟩ = some (.string A) ∧ b < w.heap.size) hA
    refine ⟨(List.range len).map f, ⟨by simp, .inr ⟨b, off, rfl, (hf 0 (by omega)).2.2, fun i hi => ?_⟩⟩, ?_, by omega⟩
    · simp at hi
      have := (hf i hi).2.1
      simpa using this
    · intro q hq
      simp at hq
      obtain ⟨i, hi, rfl⟩ := hq
      exact (hf i hi).1

/-- A value that came in. -/
theorem read_value {r : Reach} {b0 : Nat} {v0 : Value} {d : DataW H} {p : List MemPlace} (hv : Value.okWide Tryz.prog w r b0 27 v0) (h : DataW.Trod enc Tryz.prog w base sp held 27 v0 d p) :
    ∃ (v : ValT) (a1 a2 : Option Addr) (l1 c1 l2 c2 : Nat), v0 = .agg #[.int .i64 v.k, .int .i64 v.a.x, .int .i64 v.a.n, .string v.a.t, .string v.a.y, .slice a1 l1 c1, .slice a2 l2 c2] ∧ v.Ok ∧
      SlA w a1 l1 v.items ∧ SlS w a2 l2 v.names ∧ l1 ≤ maxLen ∧ l2 ≤ maxLen := by
  have hc : Tryz.prog.cellsOf 27 = 7 := by kernel_rfl
  have k3 : Tryz.prog.cellsOf 3 = 1 := by kernel_rfl
  have k36 : Tryz.prog.cellsOf 23 = 4 := by kernel_rfl
  have k42 : Tryz.prog.cellsOf 24 = 1 := by kernel_rfl
  have k43 : Tryz.prog.cellsOf 25 = 1 := by kernel_rfl
  obtain ⟨cs, rfl, hsz⟩ := okWide_struct Tryz.underlying27 hv
  obtain ⟨fuel, hf0⟩ := h
  obtain ⟨xs, m, rfl, _, hlen, hx, hf⟩ := DataW.trod_struct Tryz.underlying27 hf0
  obtain ⟨l⟩ := cs
  obtain ⟨c0, c1, c2, c3, c4, c5, c6, rfl⟩ := list7 (show l.length = 7 from (by simpa using hsz.trans hc))
  obtain ⟨x0, x1, x2, x3, rfl⟩ := list4 hx
  have h0 : DataW.trod enc Tryz.prog w base sp held m 3 [c0] = some x0 := by have := hf 0 _ rfl; simpa [k3, Value.cells] using this
  have h1 : DataW.trod enc Tryz.prog w base sp held m 23 [c1, c2, c3, c4] = some x1 := by have := hf 1 _ rfl; simpa [k36, Value.cells] using this
  have h2 : DataW.trod enc Tryz.prog w base sp held m 24 [c5] = some x2 := by have := hf 2 _ rfl; simpa [k42, Value.cells] using this
  have h3 : DataW.trod enc Tryz.prog w base sp held m 25 [c6] = some x3 := by have := hf 3 _ rfl; simpa [k43, Value.cells] using this
  obtain ⟨k, q0, _, _⟩ := DataW.trod_int Tryz.underlying3 h0
  obtain ⟨A, q1, hok⟩ := read_atom h1
  simp at q0 q1
  subst q0
  obtain ⟨rfl, rfl, rfl, rfl⟩ := q1
  have g2 : ∃ a l c, c5 = .slice a l c := by
    rcases Go.Deep.open_slice Tryz.underlying24 h2 with ⟨hcs, _⟩ | ⟨a', len', cap', _, _, _, _, hcs, _⟩
    · simp at hcs; exact ⟨_, _, _, hcs⟩
    · simp at hcs; exact ⟨_, _, _, hcs⟩
  have g3 : ∃ a l c, c6 = .slice a l c := by
    rcases Go.Deep.open_slice Tryz.underlying25 h3 with ⟨hcs, _⟩ | ⟨a', len', cap', _, _, _, _, hcs, _⟩
    · simp at hcs; exact ⟨_, _, _, hcs⟩
    · simp at hcs; exact ⟨_, _, _, hcs⟩
  obtain ⟨a1, l1, e1, rfl⟩ := g2
  obtain ⟨a2, l2, e2, rfl⟩ := g3
  obtain ⟨items, s1, o1, m1⟩ := read_atoms h2
  obtain ⟨names, s2, o2, m2⟩ := read_strings h3
  exact ⟨⟨k, A, items, names⟩, a1, a2, l1, e1, l2, e2, rfl, ⟨hok, o1, o2⟩, s1, s2, m1, m2⟩
end
end Go.Proofs.YthemcakenammdaaGreatDoor.V
