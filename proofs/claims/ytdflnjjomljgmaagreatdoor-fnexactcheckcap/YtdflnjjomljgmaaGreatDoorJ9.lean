/- WSli, WEq, one behind the other. -/
import Derived.Test.YtdflnjjomljgmaaGreatDoorJ4
import Derived.Test.YtdflnjjomljgmaaGreatDoorJ8
/- WSli, ported from seat 1a. -/
namespace Go.Proofs.YtdflnjjomljgmaaGreatDoor.V
open Go.RowKit

set_option maxHeartbeats 400000 in
theorem szAtomS_any (a : Option Addr) (len cap : Nat) (l : List AtomT) (left : Int) (w : World) (h0 : 0 ≤ left) (h1 : left ≤ 1048576) (hl : len ≤ maxLen) (hs : SlA w a len l) (hok : ∀ q ∈ l, AtomT.Ok q) :
    Calls Tryz.prog 17 #[.slice a len cap, .int .i64 left] w fun e w' => (∃ m : Int, -1 ≤ m ∧ m ≤ left ∧ (0 ≤ m → (len : Int) ≤ left) ∧ e = .returned (.int .i64 m)) ∧ Below w.heap.size w w' := by
  unfold maxLen at hl
  by_cases hlen : left < (len : Int)
  · go_enter Tryz.func17, Tryz.ntmps17
    go_wp2
    go_ret
    exact ⟨⟨-1, by omega, by omega, by omega, rfl⟩, Below.refl _ _⟩
  have d1 : decide (left - (len : Int) < 0) = false := by simp; omega
  have HS := hide hs
  clear hs
  go_enter Tryz.func17, Tryz.ntmps17
  go_wp2
  go_loopw [1, 5] (fun m i w' => ∃ (k : Nat) (q : Int), k ≤ len ∧ 0 ≤ q ∧ q ≤ left ∧ i = .int .i64 k ∧ m = .int .i64 q ∧ Below w.heap.size w w') (fun _ i _ => len - (intOf i).toNat)
  case atStart => exact ⟨0, _, Nat.zero_le _, by omega, by omega, rfl, rfl, Below.refl _ _⟩
  case round =>
    obtain ⟨k, q, hk, hq1, hq2, rfl, rfl, hbel⟩ := hrel
    by_cases hlt : k < len
    · obtain ⟨b, off, rfl, hrow⟩ := ((unhide HS).keep hbel).at hlt
      have hk' : k < l.length := by rw [← (unhide HS).1]; exact hlt
      obtain ⟨c0, c1, c2, c3⟩ := hrow.c k hk'
      have ho := hok _ (List.getElem_mem hk')
      have hz := hide (fun q w h0 h1 => szAtom_any (l[k]).x (l[k]).n q (l[k]).t (l[k]).y w h0 h1 ho.t9 ho.y9)
      clear hrow ho hok
      generalize l[k] = A at hz c0 c1 c2 c3
      go_wp2_with fail
      refine (unhide hz _ _ (by omega) (by omega)).mono ?_
      rintro e w1 ⟨⟨m, hm1, hm2, rfl⟩, hb1⟩
      by_cases hm : m < 0
      · go_wp2_with fail
        go_ret
        exact ⟨⟨-1, by omega, by omega, by omega, rfl⟩, bTr hbel hb1⟩
      · go_wp2_with fail
        exact ⟨⟨k + 1, m, by omega, by omega, by omega, by go_num, rfl, bTr hbel hb1⟩, by simp [intOf]; omega⟩
    · go_wp2_with fail
      go_ret
      exact ⟨⟨q, by omega, by omega, by omega, rfl⟩, hbel⟩

set_option maxHeartbeats 400000 in
theorem szStringS_any (a : Option Addr) (len cap : Nat) (l : List ByteArray) (left : Int) (w : World) (h0 : 0 ≤ left) (h1 : left ≤ 1048576) (hl : len ≤ maxLen) (hs : SlS w a len l) (hok : ∀ q ∈ l, ByteArray.size q ≤ maxLen) :
    Calls Tryz.prog 18 #[.slice a len cap, .int .i64 left] w fun e w' => (∃ m : Int, -1 ≤ m ∧ m ≤ left ∧ (0 ≤ m → (len : Int) ≤ left) ∧ e = .returned (.int .i64 m)) ∧ w = w' := by
  unfold maxLen at hl
  by_cases hlen : left < (len : Int)
  · go_enter Tryz.func18, Tryz.ntmps18
    go_wp2
    go_ret
    exact ⟨⟨-1, by omega, by omega, by omega, rfl⟩, rfl⟩
  have d1 : decide (left - (len : Int) < 0) = false := by simp; omega
  have HS := hide hs
  clear hs
  go_enter Tryz.func18, Tryz.ntmps18
  go_wp2
  go_loop [1, 5] (fun m i => ∃ (k : Nat) (q : Int), k ≤ len ∧ 0 ≤ q ∧ q ≤ left ∧ i = .int .i64 k ∧ m = .int .i64 q) (fun _ i => len - (intOf i).toNat)
  case atStart => exact ⟨0, _, Nat.zero_le _, by omega, by omega, rfl, rfl⟩
  case round =>
    obtain ⟨k, q, hk, hq1, hq2, rfl, rfl⟩ := hrel
    by_cases hlt : k < len
    · obtain ⟨b, off, rfl, hrow⟩ := (unhide HS).at hlt
      have hk' : k < l.length := by rw [← (unhide HS).1]; exact hlt
      have c0 := hrow.c k hk'
      have ho := hok _ (List.getElem_mem hk')
      clear hrow hok
      generalize l[k] = A at c0 ho
      unfold maxLen at ho
      by_cases hm : q - (A.size : Int) < 0
      · go_wp2_with fail
        go_ret
        exact ⟨⟨-1, by omega, by omega, rfl⟩, rfl⟩
      · go_wp2_with fail
        exact ⟨⟨k + 1, _, by omega, by omega, by omega, by go_num, rfl⟩, by simp [intOf]; omega⟩
    · go_wp2_with fail
      go_ret
      exact ⟨⟨q, by omega, by omega, rfl⟩, rfl⟩

/-- 'make([]impl.Atom, len)'. -/
theorem make_atoms (len : Nat) (w : World) (h : len ≤ 1048576) : ∃ w1 C, (Instr.makeSlice 41 (.int .i64 (len : Int)) (.int .i64 (len : Int))).run Tryz.prog w = .ok (.slice (some ⟨w.heap.size, 0, none⟩) len len) w1 ∧
    Below w.heap.size w w1 ∧ RowIs w1 w.heap.size C 40 ∧ C.size = len * 4 := by
  have hi : (Tryz.prog.info? 40).map (fun i => (i.zero, i.size, i.bytes)) = some (some (.agg #[.int .i64 0, .int .i64 0, .string ByteArray.empty, .string ByteArray.empty]), 4, 48) := by kernel_rfl
  obtain ⟨i, h1, h2⟩ := Option.map_eq_some_iff.1 hi
  simp only [Prod.mk.injEq] at h2
  obtain ⟨hz, hsz, hby⟩ := h2
  have hr := run_make (P := Tryz.prog) w 41 40 i _ Tryz.underlying41 h1 hz .i64 .i64 (len : Int) (len : Int) (by omega) (by omega) (by rw [hby]; omega) (by omega)
  rw [Int.toNat_natCast, hsz] at hr
  exact ⟨_, _, hr, bAl (Below.refl _ _) _, RowIs.new _ _ _, size_madeCells _ _⟩

theorem make_strings (len : Nat) (w : World) (h : len ≤ 1048576) : ∃ w1 C, (Instr.makeSlice 29 (.int .i64 (len : Int)) (.int .i64 (len : Int))).run Tryz.prog w = .ok (.slice (some ⟨w.heap.size, 0, none⟩) len len) w1 ∧
    Below w.heap.size w w1 ∧ RowIs w1 w.heap.size C 9 ∧ C.size = len := by
  have hi : (Tryz.prog.info? 9).map (fun i => (i.zero, i.size, i.bytes)) = some (some (.string ByteArray.empty), 1, 16) := by kernel_rfl
  obtain ⟨i, h1, h2⟩ := Option.map_eq_some_iff.1 hi
  simp only [Prod.mk.injEq] at h2
  obtain ⟨hz, hsz, hby⟩ := h2
  have hr := run_make (P := Tryz.prog) w 29 9 i _ Tryz.underlying29 h1 hz .i64 .i64 (len : Int) (len : Int) (by omega) (by omega) (by rw [hby]; omega) (by omega)
  rw [Int.toNat_natCast, hsz, Nat.mul_one] at hr
  exact ⟨_, _, hr, bAl (Below.refl _ _) _, RowIs.new _ _ _, size_madeCells _ _⟩

set_option maxHeartbeats 400000 in
theorem toStringS_any (a : Option Addr) (len cap : Nat) (l : List ByteArray) (w : World) (hl : len ≤ 1048576) (hs : SlS w a len l) :
    Calls Tryz.prog 28 #[.slice a len cap] w fun e w' => e = .returned (.slice (some ⟨w.heap.size, 0, none⟩) len len) ∧ StrRow w' w.heap.size 0 l ∧ Below w.heap.size w w' := by
  obtain ⟨w1, C1, hrun, hb1, hr1, hC1⟩ := make_strings len w hl
  have HS := hide hs
  have HB1 := hide hb1
  have HR1 := hide hr1
  clear hs hb1 hr1
  go_enter Tryz.func28, Tryz.ntmps28
  go_wp2
  clear hrun
  go_loopw [4] (fun i w' => ∃ (k : Nat) (C : Array Value), k ≤ len ∧ i = .int .i64 k ∧ Hid (Below w.heap.size w w') ∧ Hid (RowIs w' w.heap.size C 9) ∧ Hid (C.size = len) ∧ Hid (FilledS C l k)) (fun i _ => len - (intOf i).toNat)
  case atStart => exact ⟨0, C1, Nat.zero_le _, rfl, HB1, HR1, hide hC1, hide (fun i _ h => absurd h (Nat.not_lt_zero _))⟩
  case round =>
    obtain ⟨k, C, hk, rfl, hb, hr, hC, hF⟩ := hrel
    by_cases hlt : k < len
    · obtain ⟨b, off, rfl, hrow⟩ := ((unhide HS).keep (unhide hb)).at hlt
      have hk' : k < l.length := by rw [← (unhide HS).1]; exact hlt
      have c0 := hrow.c k hk'
      have fr := (unhide hr).froz k
      have hck : k < C.size := by rw [unhide hC]; exact hlt
      have c1 := (unhide hr).cell k
      rw [Array.getElem?_eq_getElem hck] at c1
      have hz : w.heap.size < wr.heap.size := (unhide hr).lt
      have hF' := hide ((unhide hF).set hk' (by rw [unhide hC]; exact (unhide HS).1))
      clear hrow hC1
      generalize l[k] = A at c0 hF'
      generalize C[k] = D at c1
      go_wp2_with fail
      exact ⟨⟨k + 1, C.setIfInBounds k (.string A), by omega, by go_num, hide ((unhide hb).setCell (Nat.le_refl _) _), hide ((unhide hr).set k _), hide (by rw [Array.size_setIfInBounds]; exact unhide hC), hF'⟩, by simp [intOf]; omega⟩
    · go_wp2_with fail
      go_ret
      have e : k = l.length := by rw [← (unhide HS).1]; omega
      exact ⟨rfl, FilledS.row (by rw [← e]; exact unhide hF) (unhide hr), unhide hb⟩
set_option maxHeartbeats 400000 in
theorem toAtomS_any (a : Option Addr) (len cap : Nat) (l : List AtomT) (w : World) (hl : len ≤ 1048576) (hs : SlA w a len l) :
    Calls Tryz.prog 27 #[.slice a len cap] w fun e w' => e = .returned (.slice (some ⟨w.heap.size, 0, none⟩) len len) ∧ AtomRow w' w.heap.size 0 l ∧ Below w.heap.size w w' := by
  obtain ⟨w1, C1, hrun, hb1, hr1, hC1⟩ := make_atoms len w hl
  have HS := hide hs
  have HB1 := hide hb1
  have HR1 := hide hr1
  clear hs hb1 hr1
  go_enter Tryz.func27, Tryz.ntmps27
  go_wp2
  clear hrun
  go_loopw [4] (fun i w' => ∃ (k : Nat) (C : Array Value), k ≤ len ∧ i = .int .i64 k ∧ Hid (Below w.heap.size w w') ∧ Hid (RowIs w' w.heap.size C 40) ∧ Hid (C.size = len * 4) ∧ Hid (Filled C l k)) (fun i _ => len - (intOf i).toNat)
  case atStart => exact ⟨0, C1, Nat.zero_le _, rfl, HB1, HR1, hide hC1, hide (fun i _ h => absurd h (Nat.not_lt_zero _))⟩
  case round =>
    obtain ⟨k, C, hk, rfl, hb, hr, hC, hF⟩ := hrel
    by_cases hlt : k < len
    · obtain ⟨b, off, rfl, hrow⟩ := ((unhide HS).keep (unhide hb)).at hlt
      have hk' : k < l.length := by rw [← (unhide HS).1]; exact hlt
      obtain ⟨c0, c1, c2, c3⟩ := hrow.c k hk'
      have hF' := hide ((unhide hF).set hk' (by rw [unhide hC, (unhide HS).1]))
      clear hrow hC1
      generalize l[k] = A at c0 c1 c2 c3 hF'
      go_wp2_with fail
      refine (toAtom_any _ _ _ _ _).mono ?_
      rintro e w2 ⟨rfl, hb2⟩
      replace hr := hide ((unhide hr).keep hb2)
      replace hb := hide (bTr (unhide hb) hb2)
      have f0 := (unhide hr).froz (k * 4)
      have f1 := (unhide hr).froz (k * 4 + 1)
      have f2 := (unhide hr).froz (k * 4 + 2)
      have f3 := (unhide hr).froz (k * 4 + 3)
      have s3 : k * 4 + 3 < C.size := by rw [unhide hC]; omega
      have g0 := (unhide hr).cell (k * 4)
      have g1 := (unhide hr).cell (k * 4 + 1)
      have g2 := (unhide hr).cell (k * 4 + 2)
      have g3 := (unhide hr).cell (k * 4 + 3)
      rw [Array.getElem?_eq_getElem (by omega)] at g0 g1 g2 g3
      generalize C[k * 4] = D0 at g0
      generalize C[k * 4 + 1] = D1 at g1
      generalize C[k * 4 + 2] = D2 at g2
      generalize C[k * 4 + 3] = D3 at g3
      clear c0 c1 c2 c3 hb2
      go_wp2_with fail
      refine ⟨⟨k + 1, set4 C k A, by omega, by go_num, hide ?_, hide ?_, hide (by rw [size_set4]; exact unhide hC), hF'⟩, by simp [intOf]; omega⟩
      · exact ((((unhide hb).setCell (Nat.le_refl _) _).setCell (Nat.le_refl _) _).setCell (Nat.le_refl _) _).setCell (Nat.le_refl _) _
      · exact ((((unhide hr).set _ _).set _ _).set _ _).set _ _
    · go_wp2_with fail
      go_ret
      have e : k = l.length := by rw [← (unhide HS).1]; omega
      exact ⟨rfl, Filled.row (by rw [← e]; exact unhide hF) (unhide hr), unhide hb⟩

set_option maxHeartbeats 1000000 in
theorem szValue_any (v : ValT) (hv : v.Ok) (a1 a2 : Option Addr) (l1 c1 l2 c2 : Nat) (left : Int) (w : World) (h0 : 0 ≤ left) (h1 : left ≤ 1048576) (hl1 : l1 ≤ maxLen) (hl2 : l2 ≤ maxLen)
    (hs1 : SlA w a1 l1 v.items) (hs2 : SlS w a2 l2 v.names) :
    Calls Tryz.prog 5 #[.agg #[.int .i64 v.k, .int .i64 v.a.x, .int .i64 v.a.n, .string v.a.t, .string v.a.y, .slice a1 l1 c1, .slice a2 l2 c2], .int .i64 left] w
      fun e w' => (∃ m : Int, -1 ≤ m ∧ m ≤ left ∧ (0 ≤ m → (l1 : Int) ≤ left ∧ (l2 : Int) ≤ left) ∧ e = .returned (.int .i64 m)) ∧ Below w.heap.size w w' := by
  have q1 := hide (fun q w h0 h1 => szAtom_any v.a.x v.a.n q v.a.t v.a.y w h0 h1 hv.a.t9 hv.a.y9)
  have q2 := hide (fun q w h0 h1 hs => szAtomS_any a1 l1 c1 v.items q w h0 h1 hl1 hs hv.items)
  have q3 := hide (fun q w h0 h1 hs => szStringS_any a2 l2 c2 v.names q w h0 h1 hl2 hs hv.names)
  have HS1 := hide hs1
  have HS2 := hide hs2
  clear hs1 hs2 hv hl1 hl2
  go_enter Tryz.func5, Tryz.ntmps5
  go_wp2_with fail
  refine (unhide q1 _ _ (by omega) (by omega)).mono ?_
  rintro e w1 ⟨⟨m1, ha1, ha2, rfl⟩, hb1⟩
  have bw := bTr (bAl (Below.refl _ _) _) hb1
  have qv := (ValAt.new w v (.slice a1 l1 c1) (.slice a2 l2 c2) 31).keep hb1
  obtain ⟨_, _, _, _, _, d5, _, _⟩ := hide qv
  clear hb1
  by_cases g1 : m1 < 0
  · go_wp2_with fail
    go_ret
    exact ⟨⟨-1, by omega, by omega, by omega, rfl⟩, bw⟩
  go_wp2_with fail
  refine (unhide q2 _ _ (by omega) (by omega) ((unhide HS1).keep bw)).mono ?_
  rintro e w2 ⟨⟨m2, hb1, hb2, hb3, rfl⟩, hb4⟩
  replace bw := bTr bw hb4
  replace qv := qv.keep hb4
  clear d5 hb4
  obtain ⟨_, _, _, _, _, _, d6, _⟩ := hide qv
  by_cases g2 : m2 < 0
  · go_wp2_with fail
    go_ret
    exact ⟨⟨-1, by omega, by omega, by omega, rfl⟩, bw⟩
  go_wp2_with fail
  refine (unhide q3 _ _ (by omega) (by omega) ((unhide HS2).keep bw)).mono ?_
  rintro e w3 ⟨⟨m3, hc1, hc2, hc3, rfl⟩, rfl⟩
  by_cases g3 : m3 < 0
  · go_wp2_with fail
    go_ret
    exact ⟨⟨-1, by omega, by omega, by omega, rfl⟩, bw⟩
  go_wp2_with fail
  go_ret
  exact ⟨⟨m3, by omega, by omega, by omega, rfl⟩, bw⟩

set_option maxHeartbeats 1000000 in
theorem toValue_any (v : ValT) (a1 a2 : Option Addr) (l1 c1 l2 c2 : Nat) (w : World) (hl1 : l1 ≤ 1048576) (hl2 : l2 ≤ 1048576)
    (hs1 : SlA w a1 l1 v.items) (hs2 : SlS w a2 l2 v.names) :
    Calls Tryz.prog 9 #[.agg #[.int .i64 v.k, .int .i64 v.a.x, .int .i64 v.a.n, .string v.a.t, .string v.a.y, .slice a1 l1 c1, .slice a2 l2 c2]] w
      fun e w' => ∃ b1 b2, e = .returned (.agg #[.int .i64 v.k, .int .i64 v.a.x, .int .i64 v.a.n, .string v.a.t, .string v.a.y, .slice (some ⟨b1, 0, none⟩) l1 l1, .slice (some ⟨b2, 0, none⟩) l2 l2])
        ∧ AtomRow w' b1 0 v.items ∧ StrRow w' b2 0 v.names ∧ Below w.heap.size w w' := by
  have q2 : Hid (∀ w, SlA w a1 l1 v.items → Calls Tryz.prog 27 #[.slice a1 l1 c1] w fun e w' => ∃ b, e = .returned (.slice (some ⟨b, 0, none⟩) l1 l1) ∧ w.heap.size ≤ b ∧ AtomRow w' b 0 v.items ∧ Below w.heap.size w w') :=
    hide (fun w hs => (toAtomS_any a1 l1 c1 v.items w hl1 hs).mono fun _ _ h => ⟨_, h.1, Nat.le_refl _, h.2.1, h.2.2⟩)
  have q3 : Hid (∀ w, SlS w a2 l2 v.names → Calls Tryz.prog 28 #[.slice a2 l2 c2] w fun e w' => ∃ b, e = .returned (.slice (some ⟨b, 0, none⟩) l2 l2) ∧ w.heap.size ≤ b ∧ StrRow w' b 0 v.names ∧ Below w.heap.size w w') :=
    hide (fun w hs => (toStringS_any a2 l2 c2 v.names w hl2 hs).mono fun _ _ h => ⟨_, h.1, Nat.le_refl _, h.2.1, h.2.2⟩)
  have HS1 := hide hs1
  have HS2 := hide hs2
  clear hs1 hs2 hl1 hl2
  go_enter Tryz.func9, Tryz.ntmps9
  go_wp2_with fail
  refine (toAtom_any _ _ _ _ _).mono ?_
  rintro e w1 ⟨rfl, hb1⟩
  have src := ((((ValAt.new w v (.slice a1 l1 c1) (.slice a2 l2 c2) 31).more _).more _).keep hb1)
  have bw := bTr (bAl (bAl (bAl (Below.refl _ _) _) _) _) hb1
  have ro := ((RowIs.new (w.alloc _) _ _).keep (bAl (Below.refl _ _) _)).keep hb1
  have out := (RowIs.new ((w.alloc _).alloc _) _ _).keep hb1
  simp only [World.size_alloc] at ro out
  clear hb1
  have f1 := out.froz 1
  have f2 := out.froz 2
  have f3 := out.froz 3
  have f4 := out.froz 4
  have k1 : w1.cell? ⟨w.heap.size + 1 + 1, 1, none⟩ = some (.int .i64 0) := out.at rfl
  have k2 : w1.cell? ⟨w.heap.size + 1 + 1, 2, none⟩ = some (.int .i64 0) := out.at rfl
  have k3 : w1.cell? ⟨w.heap.size + 1 + 1, 3, none⟩ = some (.string ⟨#[]⟩) := out.at rfl
  have k4 : w1.cell? ⟨w.heap.size + 1 + 1, 4, none⟩ = some (.string ⟨#[]⟩) := out.at rfl
  have d5 := src.c5
  have n1 : w.heap.size ≠ w.heap.size + 1 + 1 := by omega
  have n2 : w.heap.size + 1 ≠ w.heap.size + 1 + 1 := by omega
  obtain ⟨W1, hW1⟩ : ∃ W, W = (((w1.setCell ⟨w.heap.size + 1 + 1, 1, none⟩ (.int .i64 v.a.x)).setCell ⟨w.heap.size + 1 + 1, 2, none⟩ (.int .i64 v.a.n)).setCell ⟨w.heap.size + 1 + 1, 3, none⟩ (.string v.a.t)).setCell ⟨w.heap.size + 1 + 1, 4, none⟩ (.string v.a.y) := ⟨_, rfl⟩
  have HW1 := hide hW1
  replace out : RowIs W1 (w.heap.size + 1 + 1) #[.int .i64 v.k, .int .i64 v.a.x, .int .i64 v.a.n, .string v.a.t, .string v.a.y, .slice none 0 0, .slice none 0 0] 43 := by
    rw [hW1]; exact (((out.set 1 (.int .i64 v.a.x)).set 2 (.int .i64 v.a.n)).set 3 (.string v.a.t)).set 4 (.string v.a.y)
  replace src : ValAt W1 w.heap.size v (.slice a1 l1 c1) (.slice a2 l2 c2) := by rw [hW1]; exact (((src.setOther _ n1).setOther _ n1).setOther _ n1).setOther _ n1
  replace ro : RowIs W1 (w.heap.size + 1) #[.int .i64 0, .int .i64 0, .int .i64 0, .string ⟨#[]⟩, .string ⟨#[]⟩, .slice none 0 0, .slice none 0 0] 43 := by rw [hW1]; exact (((ro.setOther _ n2).setOther _ n2).setOther _ n2).setOther _ n2
  replace bw : Below w.heap.size w W1 := by rw [hW1]; exact (((bw.setCell (by simp; omega) _).setCell (by simp; omega) _).setCell (by simp; omega) _).setCell (by simp; omega) _
  clear hW1
  go_wp2_with fail
  rw [← unhide HW1]
  clear f1 f2 f3 f4 k1 k2 k3 k4 d5 HW1
  refine (unhide q2 _ ((unhide HS1).keep bw)).mono ?_
  rintro e w2 ⟨b1, rfl, hb1, hrow1, hb⟩
  have nb1 : b1 ≠ w.heap.size + 1 + 1 := by have := out.lt; omega
  have mb1 : b1 ≠ w.heap.size + 1 := by have := out.lt; omega
  replace out := out.keep hb
  replace src := src.keep hb
  replace ro := ro.keep hb
  replace bw := bTr bw hb
  clear hb hb1
  have f5 := out.froz 5
  have k5 : w2.cell? ⟨w.heap.size + 1 + 1, 5, none⟩ = some (.slice none 0 0) := out.at rfl
  have d6 := src.c6
  obtain ⟨W2, hW2⟩ : ∃ W, W = w2.setCell ⟨w.heap.size + 1 + 1, 5, none⟩ (.slice (some ⟨b1, 0, none⟩) l1 l1) := ⟨_, rfl⟩
  have HW2 := hide hW2
  replace out : RowIs W2 (w.heap.size + 1 + 1) #[.int .i64 v.k, .int .i64 v.a.x, .int .i64 v.a.n, .string v.a.t, .string v.a.y, .slice (some ⟨b1, 0, none⟩) l1 l1, .slice none 0 0] 43 := by
    rw [hW2]; exact out.set 5 _
  replace ro : RowIs W2 (w.heap.size + 1) #[.int .i64 0, .int .i64 0, .int .i64 0, .string ⟨#[]⟩, .string ⟨#[]⟩, .slice none 0 0, .slice none 0 0] 43 := by rw [hW2]; exact ro.setOther _ n2
  replace hrow1 : AtomRow W2 b1 0 v.items := by rw [hW2]; exact hrow1.setOther _ nb1
  replace bw : Below w.heap.size w W2 := by rw [hW2]; exact bw.setCell (by simp; omega) _
  clear hW2 src
  go_wp2_with fail
  rw [← unhide HW2]
  clear f5 k5 d6 HW2
  refine (unhide q3 _ ((unhide HS2).keep bw)).mono ?_
  rintro e w3 ⟨b2, rfl, hb2, hrow2, hb⟩
  have nb2 : b2 ≠ w.heap.size + 1 + 1 := by have := out.lt; omega
  have mb2 : b2 ≠ w.heap.size + 1 := by have := out.lt; omega
  replace out := out.keep hb
  replace ro := ro.keep hb
  replace bw := bTr bw hb
  replace hrow1 := hrow1.keep hb
  clear hb hb2 q2 q3
  have f6 := out.froz 6
  have k0 : w3.cell? ⟨w.heap.size + 1 + 1, 0, none⟩ = some (.int .i64 v.k) := out.at rfl
  have k1 : w3.cell? ⟨w.heap.size + 1 + 1, 1, none⟩ = some (.int .i64 v.a.x) := out.at rfl
  have k2 : w3.cell? ⟨w.heap.size + 1 + 1, 2, none⟩ = some (.int .i64 v.a.n) := out.at rfl
  have k3 : w3.cell? ⟨w.heap.size + 1 + 1, 3, none⟩ = some (.string v.a.t) := out.at rfl
  have k4 : w3.cell? ⟨w.heap.size + 1 + 1, 4, none⟩ = some (.string v.a.y) := out.at rfl
  have k5 : w3.cell? ⟨w.heap.size + 1 + 1, 5, none⟩ = some (.slice (some ⟨b1, 0, none⟩) l1 l1) := out.at rfl
  have k6 : w3.cell? ⟨w.heap.size + 1 + 1, 6, none⟩ = some (.slice none 0 0) := out.at rfl
  have g0 := ro.froz 0
  have g1 := ro.froz 1
  have g2 := ro.froz 2
  have g3 := ro.froz 3
  have g4 := ro.froz 4
  have g5 := ro.froz 5
  have g6 := ro.froz 6
  have j0 : w3.cell? ⟨w.heap.size + 1, 0, none⟩ = some (.int .i64 0) := ro.at rfl
  have j1 : w3.cell? ⟨w.heap.size + 1, 1, none⟩ = some (.int .i64 0) := ro.at rfl
  have j2 : w3.cell? ⟨w.heap.size + 1, 2, none⟩ = some (.int .i64 0) := ro.at rfl
  have j3 : w3.cell? ⟨w.heap.size + 1, 3, none⟩ = some (.string ⟨#[]⟩) := ro.at rfl
  have j4 : w3.cell? ⟨w.heap.size + 1, 4, none⟩ = some (.string ⟨#[]⟩) := ro.at rfl
  have j5 : w3.cell? ⟨w.heap.size + 1, 5, none⟩ = some (.slice none 0 0) := ro.at rfl
  have j6 : w3.cell? ⟨w.heap.size + 1, 6, none⟩ = some (.slice none 0 0) := ro.at rfl
  clear out ro
  go_wp2_with fail
  refine bodyPost_ret (v := .agg #[.int .i64 v.k, .int .i64 v.a.x, .int .i64 v.a.n, .string v.a.t, .string v.a.y, .slice (some ⟨b1, 0, none⟩) l1 l1, .slice (some ⟨b2, 0, none⟩) l2 l2]) (by simp [results, Tryz.results9, go_sem, j0, j1, j2, j3, j4, j5, j6]) rfl ⟨b1, b2, rfl, ?_, ?_, ?_⟩
  · exact (((((((hrow1.setOther _ nb1).setOther _ mb1).setOther _ mb1).setOther _ mb1).setOther _ mb1).setOther _ mb1).setOther _ mb1).setOther _ mb1
  · exact (((((((hrow2.setOther _ nb2).setOther _ mb2).setOther _ mb2).setOther _ mb2).setOther _ mb2).setOther _ mb2).setOther _ mb2).setOther _ mb2
  · exact (((((((bw.setCell (by simp; omega) _).setCell (by simp) _).setCell (by simp) _).setCell (by simp) _).setCell (by simp) _).setCell (by simp) _).setCell (by simp) _).setCell (by simp) _
end Go.Proofs.YtdflnjjomljgmaaGreatDoor.V
/- WEq, ported from seat 1a. -/
namespace Go.Proofs.YtdflnjjomljgmaaGreatDoor.V
open Go.RowKit

theorem eqAtom_same (x n : Int) (t y : ByteArray) (w : World) :
    Calls Tryz.prog 35 #[.agg #[.int .i64 x, .int .i64 n, .string t, .string y], .agg #[.int .i64 x, .int .i64 n, .string t, .string y]] w fun e w' => e = .returned (.bool true) ∧ Below w.heap.size w w' := by
  go_enter Tryz.func35, Tryz.ntmps35
  go_wp2
  go_ret
  exact ⟨rfl, bAl (bAl (Below.refl _ _) _) _⟩

set_option maxHeartbeats 400000 in
theorem eqAtomS_same (a1 a2 : Option Addr) (len1 c1 len2 c2 : Nat) (l : List AtomT) (w : World) (h1 : SlA w a1 len1 l) (h2 : SlA w a2 len2 l) (hm : len1 ≤ maxLen) :
    Calls Tryz.prog 36 #[.slice a1 len1 c1, .slice a2 len2 c2] w fun e w' => e = .returned (.bool true) ∧ Below w.heap.size w w' := by
  unfold maxLen at hm
  obtain rfl : len1 = len2 := by rw [h1.1, h2.1]
  have H1 := hide h1
  have H2 := hide h2
  clear h1 h2
  go_enter Tryz.func36, Tryz.ntmps36
  go_wp2
  go_loopw [5] (fun i w' => ∃ k : Nat, k ≤ len1 ∧ i = .int .i64 k ∧ Below w.heap.size w w') (fun i _ => len1 - (intOf i).toNat)
  case atStart => exact ⟨0, Nat.zero_le _, rfl, Below.refl _ _⟩
  case round =>
    obtain ⟨k, hk, rfl, hbel⟩ := hrel
    by_cases hlt : k < len1
    · have g1 := hide ((unhide H1).keep hbel)
      have g2 := hide ((unhide H2).keep hbel)
      have hk' : k < l.length := by rw [← (unhide H1).1]; exact hlt
      obtain ⟨b, off, rfl, r1⟩ := (unhide g1).at hlt
      obtain ⟨b', off', rfl, r2⟩ := (unhide g2).at hlt
      have p1 := r1.c k hk'
      have p2 := r2.c k hk'
      have z1 := r1.z
      have z2 := r2.z
      clear r1 r2 g1 g2
      generalize l[k] = A at p1 p2
      have ne : Nonempty (Kept wr) := ⟨⟨wr, Below.refl _ _⟩⟩
      have e0 := kept_cell z1 p1.c0
      have e1 := kept_cell z1 p1.c1
      have e2 := kept_cell z1 p1.c2
      have e3 := kept_cell z1 p1.c3
      have f0 := kept_cell z2 p2.c0
      have f1 := kept_cell z2 p2.c1
      have f2 := kept_cell z2 p2.c2
      have f3 := kept_cell z2 p2.c3
      have i0 : (0 : Int) ≤ (k : Int) := by omega
      have i1 : (k : Int) < (len1 : Int) := by omega
      go_wp2_with fail
      refine wp_region_kept (by kernel_rfl) (by kernel_rfl) ?_
      repeat (first
        | go_big_quiet_step ((go_at_call 35; exact kept_call (eqAtom_same _ _ _ _ _)))
        | quiet_step ((go_at_call 35; exact kept_call (eqAtom_same _ _ _ _ _))))
      refine wpQuiet_nil ?_
      rintro _ ⟨q, rfl⟩
      clear ne e0 e1 e2 e3 f0 f1 f2 f3
      obtain ⟨w3, hb3⟩ := q
      go_wp2_with fail
      exact ⟨⟨k + 1, by omega, by go_num, bTr hbel hb3⟩, by simp [intOf]; omega⟩
    · go_wp2_with fail
      go_ret
      exact ⟨rfl, hbel⟩
set_option maxHeartbeats 400000 in
theorem eqStringS_same (a1 a2 : Option Addr) (len1 c1 len2 c2 : Nat) (l : List ByteArray) (w : World) (h1 : SlS w a1 len1 l) (h2 : SlS w a2 len2 l) (hm : len1 ≤ maxLen) :
    Calls Tryz.prog 37 #[.slice a1 len1 c1, .slice a2 len2 c2] w fun e w' => e = .returned (.bool true) ∧ Below w.heap.size w w' := by
  unfold maxLen at hm
  obtain rfl : len1 = len2 := by rw [h1.1, h2.1]
  have H1 := hide h1
  have H2 := hide h2
  clear h1 h2
  go_enter Tryz.func37, Tryz.ntmps37
  go_wp2
  go_loopw [5] (fun i w' => ∃ k : Nat, k ≤ len1 ∧ i = .int .i64 k ∧ Below w.heap.size w w') (fun i _ => len1 - (intOf i).toNat)
  case atStart => exact ⟨0, Nat.zero_le _, rfl, Below.refl _ _⟩
  case round =>
    obtain ⟨k, hk, rfl, hbel⟩ := hrel
    by_cases hlt : k < len1
    · have g1 := hide ((unhide H1).keep hbel)
      have g2 := hide ((unhide H2).keep hbel)
      have hk' : k < l.length := by rw [← (unhide H1).1]; exact hlt
      obtain ⟨b, off, rfl, r1⟩ := (unhide g1).at hlt
      obtain ⟨b', off', rfl, r2⟩ := (unhide g2).at hlt
      have p1 := r1.c k hk'
      have p2 := r2.c k hk'
      clear r1 r2 g1 g2
      generalize l[k] = A at p1 p2
      have i0 : (0 : Int) ≤ (k : Int) := by omega
      have i1 : (k : Int) < (len1 : Int) := by omega
      go_wp2_with fail
      go_quiet (fail)
      go_wp2_with fail
      exact ⟨⟨k + 1, by omega, by go_num, below_drewN hbel _⟩, by simp [intOf]; omega⟩
    · go_wp2_with fail
      go_ret
      exact ⟨rfl, hbel⟩

set_option maxHeartbeats 1000000 in
theorem eqValue_same (v : ValT) (a1 a2 b1 b2 : Option Addr) (l1 c1 l2 c2 m1 e1 m2 e2 : Nat) (w : World) (hl1 : l1 ≤ maxLen) (hl2 : l2 ≤ maxLen)
    (hs1 : SlA w a1 l1 v.items) (hs2 : SlS w a2 l2 v.names) (ht1 : SlA w b1 m1 v.items) (ht2 : SlS w b2 m2 v.names) :
    Calls Tryz.prog 13 #[.agg #[.int .i64 v.k, .int .i64 v.a.x, .int .i64 v.a.n, .string v.a.t, .string v.a.y, .slice a1 l1 c1, .slice a2 l2 c2],
        .agg #[.int .i64 v.k, .int .i64 v.a.x, .int .i64 v.a.n, .string v.a.t, .string v.a.y, .slice b1 m1 e1, .slice b2 m2 e2]] w
      fun e w' => e = .returned (.bool true) ∧ Below w.heap.size w w' := by
  have q1 := hide (fun w (h1 : SlA w a1 l1 v.items) (h2 : SlA w b1 m1 v.items) => eqAtomS_same a1 b1 l1 c1 m1 e1 v.items w h1 h2 hl1)
  have q2 := hide (fun w (h1 : SlS w a2 l2 v.names) (h2 : SlS w b2 m2 v.names) => eqStringS_same a2 b2 l2 c2 m2 e2 v.names w h1 h2 hl2)
  have HS1 := hide hs1
  have HS2 := hide hs2
  have HT1 := hide ht1
  have HT2 := hide ht2
  clear hs1 hs2 ht1 ht2 hl1 hl2
  go_enter Tryz.func13, Tryz.ntmps13
  go_wp2_with fail
  refine (eqAtom_same _ _ _ _ _).mono ?_
  rintro e w1 ⟨rfl, hb1⟩
  have qa := ((ValAt.new w v (.slice a1 l1 c1) (.slice a2 l2 c2) 43).more _).keep hb1
  have qb := (ValAt.new1 w _ v (.slice b1 m1 e1) (.slice b2 m2 e2) 43).keep hb1
  have bw := bTr (bAl (bAl (Below.refl _ _) _) _) hb1
  clear hb1
  have d5 := qa.c5
  have f5 := qb.c5
  go_wp2_with fail
  refine (unhide q1 _ ((unhide HS1).keep bw) ((unhide HT1).keep bw)).mono ?_
  rintro e w2 ⟨rfl, hb2⟩
  clear d5 f5
  have d6 := (qa.keep hb2).c6
  have f6 := (qb.keep hb2).c6
  replace bw := bTr bw hb2
  clear hb2
  go_wp2_with fail
  refine (unhide q2 _ ((unhide HS2).keep bw) ((unhide HT2).keep bw)).mono ?_
  rintro e w3 ⟨rfl, hb3⟩
  go_wp2_with fail
  go_ret
  exact ⟨rfl, bTr bw hb3⟩
end Go.Proofs.YtdflnjjomljgmaaGreatDoor.V
