/- WTo, WEq, one behind the other. -/
import Derived.Test.YtpfekkhnjaopdaaGreatJ11
import Derived.Test.YtpfekkhnjaopdaaGreatJ2
/- laws.toStringS, laws.toAtomS: the new rows may be written into. -/
namespace Go.Proofs.YtpfekkhnjaopdaaGreat.V
open Go.RowKit

set_option maxHeartbeats 400000 in
theorem toStringS_f (a : Option Addr) (len cap : Nat) (l : List ByteArray) (w : World) (hl : len ≤ 1048576) (hs : SlS w a len l) :
    Calls Tryz.prog 50 #[.slice a len cap] w fun e w' => e = .returned (.slice (some ⟨w.heap.size, 0, none⟩) len len) ∧ StrRow w' w.heap.size 0 l ∧ (∀ o, w'.frozen? ⟨w.heap.size, o, none⟩ = false) ∧ Below w.heap.size w w' := by
  obtain ⟨w1, C1, hrun, hb1, hr1, hC1⟩ := make_strings len w hl
  have HS := hide hs
  have HB1 := hide hb1
  have HR1 := hide hr1
  clear hs hb1 hr1
  go_enter Tryz.func50, Tryz.ntmps50
  go_wp2
  clear hrun
  go_loopw [4] (fun i w' => ∃ (k : Nat) (C : Array Value), k ≤ len ∧ i = .int .i64 k ∧ Hid (Below w.heap.size w w') ∧ Hid (RowIs w' w.heap.size C 9) ∧ Hid (C.size = len) ∧ Hid (FilledS C l k)) (fun i _ => len - (intOf i).toNat)
  case atStart => exact ⟨0, C1, Nat.zero_le _, rfl, HB1, HR1, hide hC1, hide (fun i _ h => absurd h (Nat.not_lt_zero _))⟩
  case round =>
    obtain ⟨k, C, hk, rfl, hb, hr, hC, hF⟩ := hrel
    by_cases hlt : k < len
    · obtain ⟨b, off, rfl, hrow⟩ := ((unhide HS).keep (unhide hb)).at hlt
      have hk' : k < l.length := by rw [← (unhide HS).1]; exact hlt
      have c0 := hrow.c k hk'
      have fr := (unhide hr).froz k
      have hck : k < C.size := by rw [unhide hC]; exact hlt
      have c1 := (unhide hr).cell k
      rw [Array.getElem?_eq_getElem hck] at c1
      have hz : w.heap.size < wr.heap.size := (unhide hr).lt
      have hF' := hide ((unhide hF).set hk' (by rw [unhide hC]; exact (unhide HS).1))
      clear hrow hC1
      generalize l[k] = A at c0 hF'
      generalize C[k] = D at c1
      go_wp2_with fail
      exact ⟨⟨k + 1, C.setIfInBounds k (.string A), by omega, by go_num, hide ((unhide hb).setCell (Nat.le_refl _) _), hide ((unhide hr).set k _), hide (by rw [Array.size_setIfInBounds]; exact unhide hC), hF'⟩, by simp [intOf]; omega⟩
    · go_wp2_with fail
      go_ret
      have e : k = l.length := by rw [← (unhide HS).1]; omega
      exact ⟨rfl, FilledS.row (by rw [← e]; exact unhide hF) (unhide hr), fun o => (unhide hr).froz o, unhide hb⟩
set_option maxHeartbeats 400000 in
theorem toAtomS_f (a : Option Addr) (len cap : Nat) (l : List AtomT) (w : World) (hl : len ≤ 1048576) (hs : SlA w a len l) :
    Calls Tryz.prog 49 #[.slice a len cap] w fun e w' => e = .returned (.slice (some ⟨w.heap.size, 0, none⟩) len len) ∧ AtomRow w' w.heap.size 0 l ∧ (∀ o, w'.frozen? ⟨w.heap.size, o, none⟩ = false) ∧ Below w.heap.size w w' := by
  obtain ⟨w1, C1, hrun, hb1, hr1, hC1⟩ := make_atoms len w hl
  have HS := hide hs
  have HB1 := hide hb1
  have HR1 := hide hr1
  clear hs hb1 hr1
  go_enter Tryz.func49, Tryz.ntmps49
  go_wp2
  clear hrun
  go_loopw [4] (fun i w' => ∃ (k : Nat) (C : Array Value), k ≤ len ∧ i = .int .i64 k ∧ Hid (Below w.heap.size w w') ∧ Hid (RowIs w' w.heap.size C 31) ∧ Hid (C.size = len * 4) ∧ Hid (Filled C l k)) (fun i _ => len - (intOf i).toNat)
  case atStart => exact ⟨0, C1, Nat.zero_le _, rfl, HB1, HR1, hide hC1, hide (fun i _ h => absurd h (Nat.not_lt_zero _))⟩
  case round =>
    obtain ⟨k, C, hk, rfl, hb, hr, hC, hF⟩ := hrel
    by_cases hlt : k < len
    · obtain ⟨b, off, rfl, hrow⟩ := ((unhide HS).keep (unhide hb)).at hlt
      have hk' : k < l.length := by rw [← (unhide HS).1]; exact hlt
      obtain ⟨c0, c1, c2, c3⟩ := hrow.c k hk'
      have hF' := hide ((unhide hF).set hk' (by rw [unhide hC, (unhide HS).1]))
      clear hrow hC1
      generalize l[k] = A at c0 c1 c2 c3 hF'
      go_wp2_with fail
      refine (toAtom_any _ _ _ _ _).mono ?_
      rintro e w2 ⟨rfl, hb2⟩
      replace hr := hide ((unhide hr).keep hb2)
      replace hb := hide (bTr (unhide hb) hb2)
      have f0 := (unhide hr).froz (k * 4)
      have f1 := (unhide hr).froz (k * 4 + 1)
      have f2 := (unhide hr).froz (k * 4 + 2)
      have f3 := (unhide hr).froz (k * 4 + 3)
      have s3 : k * 4 + 3 < C.size := by rw [unhide hC]; omega
      have g0 := (unhide hr).cell (k * 4)
      have g1 := (unhide hr).cell (k * 4 + 1)
      have g2 := (unhide hr).cell (k * 4 + 2)
      have g3 := (unhide hr).cell (k * 4 + 3)
      rw [Array.getElem?_eq_getElem (by omega)] at g0 g1 g2 g3
      generalize C[k * 4] = D0 at g0
      generalize C[k * 4 + 1] = D1 at g1
      generalize C[k * 4 + 2] = D2 at g2
      generalize C[k * 4 + 3] = D3 at g3
      clear c0 c1 c2 c3 hb2
      go_wp2_with fail
      refine ⟨⟨k + 1, set4 C k A, by omega, by go_num, hide ?_, hide ?_, hide (by rw [size_set4]; exact unhide hC), hF'⟩, by simp [intOf]; omega⟩
      · exact ((((unhide hb).setCell (Nat.le_refl _) _).setCell (Nat.le_refl _) _).setCell (Nat.le_refl _) _).setCell (Nat.le_refl _) _
      · exact ((((unhide hr).set _ _).set _ _).set _ _).set _ _
    · go_wp2_with fail
      go_ret
      have e : k = l.length := by rw [← (unhide HS).1]; omega
      exact ⟨rfl, Filled.row (by rw [← e]; exact unhide hF) (unhide hr), fun o => (unhide hr).froz o, unhide hb⟩
end Go.Proofs.YtpfekkhnjaopdaaGreat.V
/- WEq, ported from seat 1a. -/
namespace Go.Proofs.YtpfekkhnjaopdaaGreat.V
open Go.RowKit

theorem eqAtom_same (x n : Int) (t y : ByteArray) (w : World) :
    Calls Tryz.prog 31 #[.agg #[.int .i64 x, .int .i64 n, .string t, .string y], .agg #[.int .i64 x, .int .i64 n, .string t, .string y]] w fun e w' => e = .returned (.bool true) ∧ Below w.heap.size w w' := by
  go_enter Tryz.func31, Tryz.ntmps31
  go_wp2
  go_ret
  exact ⟨rfl, bAl (bAl (Below.refl _ _) _) _⟩

set_option maxHeartbeats 400000 in
theorem eqAtomS_same (a1 a2 : Option Addr) (len1 c1 len2 c2 : Nat) (l : List AtomT) (w : World) (h1 : SlA w a1 len1 l) (h2 : SlA w a2 len2 l) (hm : len1 ≤ maxLen) :
    Calls Tryz.prog 11 #[.slice a1 len1 c1, .slice a2 len2 c2] w fun e w' => e = .returned (.bool true) ∧ Below w.heap.size w w' := by
  unfold maxLen at hm
  obtain rfl : len1 = len2 := by rw [h1.1, h2.1]
  have H1 := hide h1
  have H2 := hide h2
  clear h1 h2
  go_enter Tryz.func11, Tryz.ntmps11
  go_wp2
  go_loopw [5] (fun i w' => ∃ k : Nat, k ≤ len1 ∧ i = .int .i64 k ∧ Below w.heap.size w w') (fun i _ => len1 - (intOf i).toNat)
  case atStart => exact ⟨0, Nat.zero_le _, rfl, Below.refl _ _⟩
  case round =>
    obtain ⟨k, hk, rfl, hbel⟩ := hrel
    by_cases hlt : k < len1
    · have g1 := hide ((unhide H1).keep hbel)
      have g2 := hide ((unhide H2).keep hbel)
      have hk' : k < l.length := by rw [← (unhide H1).1]; exact hlt
      obtain ⟨b, off, rfl, r1⟩ := (unhide g1).at hlt
      obtain ⟨b', off', rfl, r2⟩ := (unhide g2).at hlt
      have p1 := r1.c k hk'
      have p2 := r2.c k hk'
      have z1 := r1.z
      have z2 := r2.z
      clear r1 r2 g1 g2
      generalize l[k] = A at p1 p2
      have ne : Nonempty (Kept wr) := ⟨⟨wr, Below.refl _ _⟩⟩
      have e0 := kept_cell z1 p1.c0
      have e1 := kept_cell z1 p1.c1
      have e2 := kept_cell z1 p1.c2
      have e3 := kept_cell z1 p1.c3
      have f0 := kept_cell z2 p2.c0
      have f1 := kept_cell z2 p2.c1
      have f2 := kept_cell z2 p2.c2
      have f3 := kept_cell z2 p2.c3
      have i0 : (0 : Int) ≤ (k : Int) := by omega
      have i1 : (k : Int) < (len1 : Int) := by omega
      go_wp2_with fail
      refine wp_region_kept (by kernel_rfl) (by kernel_rfl) ?_
      repeat (first
        | go_big_quiet_step ((go_at_call 31; exact kept_call (eqAtom_same _ _ _ _ _)))
        | quiet_step ((go_at_call 31; exact kept_call (eqAtom_same _ _ _ _ _))))
      refine wpQuiet_nil ?_
      rintro _ ⟨q, rfl⟩
      clear ne e0 e1 e2 e3 f0 f1 f2 f3
      obtain ⟨w3, hb3⟩ := q
      go_wp2_with fail
      exact ⟨⟨k + 1, by omega, by go_num, bTr hbel hb3⟩, by simp [intOf]; omega⟩
    · go_wp2_with fail
      go_ret
      exact ⟨rfl, hbel⟩
set_option maxHeartbeats 400000 in
theorem eqStringS_same (a1 a2 : Option Addr) (len1 c1 len2 c2 : Nat) (l : List ByteArray) (w : World) (h1 : SlS w a1 len1 l) (h2 : SlS w a2 len2 l) (hm : len1 ≤ maxLen) :
    Calls Tryz.prog 61 #[.slice a1 len1 c1, .slice a2 len2 c2] w fun e w' => e = .returned (.bool true) ∧ Below w.heap.size w w' := by
  unfold maxLen at hm
  obtain rfl : len1 = len2 := by rw [h1.1, h2.1]
  have H1 := hide h1
  have H2 := hide h2
  clear h1 h2
  go_enter Tryz.func61, Tryz.ntmps61
  go_wp2
  go_loopw [5] (fun i w' => ∃ k : Nat, k ≤ len1 ∧ i = .int .i64 k ∧ Below w.heap.size w w') (fun i _ => len1 - (intOf i).toNat)
  case atStart => exact ⟨0, Nat.zero_le _, rfl, Below.refl _ _⟩
  case round =>
    obtain ⟨k, hk, rfl, hbel⟩ := hrel
    by_cases hlt : k < len1
    · have g1 := hide ((unhide H1).keep hbel)
      have g2 := hide ((unhide H2).keep hbel)
      have hk' : k < l.length := by rw [← (unhide H1).1]; exact hlt
      obtain ⟨b, off, rfl, r1⟩ := (unhide g1).at hlt
      obtain ⟨b', off', rfl, r2⟩ := (unhide g2).at hlt
      have p1 := r1.c k hk'
      have p2 := r2.c k hk'
      clear r1 r2 g1 g2
      generalize l[k] = A at p1 p2
      have i0 : (0 : Int) ≤ (k : Int) := by omega
      have i1 : (k : Int) < (len1 : Int) := by omega
      go_wp2_with fail
      go_quiet (fail)
      go_wp2_with fail
      exact ⟨⟨k + 1, by omega, by go_num, below_drewN hbel _⟩, by simp [intOf]; omega⟩
    · go_wp2_with fail
      go_ret
      exact ⟨rfl, hbel⟩

set_option maxHeartbeats 1000000 in
theorem eqValue_same (v : ValT) (a1 a2 b1 b2 : Option Addr) (l1 c1 l2 c2 m1 e1 m2 e2 : Nat) (w : World) (hl1 : l1 ≤ maxLen) (hl2 : l2 ≤ maxLen)
    (hs1 : SlA w a1 l1 v.items) (hs2 : SlS w a2 l2 v.names) (ht1 : SlA w b1 m1 v.items) (ht2 : SlS w b2 m2 v.names) :
    Calls Tryz.prog 91 #[.agg #[.int .i64 v.k, .int .i64 v.a.x, .int .i64 v.a.n, .string v.a.t, .string v.a.y, .slice a1 l1 c1, .slice a2 l2 c2],
        .agg #[.int .i64 v.k, .int .i64 v.a.x, .int .i64 v.a.n, .string v.a.t, .string v.a.y, .slice b1 m1 e1, .slice b2 m2 e2]] w
      fun e w' => e = .returned (.bool true) ∧ Below w.heap.size w w' := by
  have q1 := hide (fun w (h1 : SlA w a1 l1 v.items) (h2 : SlA w b1 m1 v.items) => eqAtomS_same a1 b1 l1 c1 m1 e1 v.items w h1 h2 hl1)
  have q2 := hide (fun w (h1 : SlS w a2 l2 v.names) (h2 : SlS w b2 m2 v.names) => eqStringS_same a2 b2 l2 c2 m2 e2 v.names w h1 h2 hl2)
  have HS1 := hide hs1
  have HS2 := hide hs2
  have HT1 := hide ht1
  have HT2 := hide ht2
  clear hs1 hs2 ht1 ht2 hl1 hl2
  go_enter Tryz.func91, Tryz.ntmps91
  go_wp2_with fail
  refine (eqAtom_same _ _ _ _ _).mono ?_
  rintro e w1 ⟨rfl, hb1⟩
  have qa := ((ValAt.new w v (.slice a1 l1 c1) (.slice a2 l2 c2) 103).more _).keep hb1
  have qb := (ValAt.new1 w _ v (.slice b1 m1 e1) (.slice b2 m2 e2) 103).keep hb1
  have bw := bTr (bAl (bAl (Below.refl _ _) _) _) hb1
  clear hb1
  have d5 := qa.c5
  have f5 := qb.c5
  go_wp2_with fail
  refine (unhide q1 _ ((unhide HS1).keep bw) ((unhide HT1).keep bw)).mono ?_
  rintro e w2 ⟨rfl, hb2⟩
  clear d5 f5
  have d6 := (qa.keep hb2).c6
  have f6 := (qb.keep hb2).c6
  replace bw := bTr bw hb2
  clear hb2
  go_wp2_with fail
  refine (unhide q2 _ ((unhide HS2).keep bw) ((unhide HT2).keep bw)).mono ?_
  rintro e w3 ⟨rfl, hb3⟩
  go_wp2_with fail
  go_ret
  exact ⟨rfl, bTr bw hb3⟩
end Go.Proofs.YtpfekkhnjaopdaaGreat.V
