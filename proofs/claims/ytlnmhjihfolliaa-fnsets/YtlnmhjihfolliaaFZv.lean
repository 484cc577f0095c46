/- laws.zAtoms, laws.zTexts, laws.zValue of what is the same. -/
import Derived.Test.YtlnmhjihfolliaaSBase
namespace Go.Proofs.Ytlnmhjihfolliaa.V
open Go.RowKit
set_option maxRecDepth 20000

set_option maxHeartbeats 400000 in
theorem zAtoms_same (a1 a2 : Option Addr) (len1 c1 len2 c2 : Nat) (l : List AtomT) (w : World) (h1 : SlA w a1 len1 l) (h2 : SlA w a2 len2 l) (hm : len1 ≤ maxLen) :
    Calls Try.prog 18 #[.slice a1 len1 c1, .slice a2 len2 c2] w fun e w' => e = .returned (.bool true) ∧ Below w.heap.size w w' := by
  unfold maxLen at hm
  obtain rfl : len1 = len2 := by rw [h1.1, h2.1]
  have H1 := hide h1
  have H2 := hide h2
  clear h1 h2
  have d1 : ((len1 : Int) != (len1 : Int)) = false := by simp
  go_enter Try.func18, Try.ntmps18
  go_wp2_with fail
  go_loopw [13] (fun i w' => ∃ k : Nat, k ≤ len1 ∧ i = .int .i64 k ∧ Hid (Below w.heap.size w w')) (fun i _ => len1 - (intOf i).toNat)
  case atStart => exact ⟨0, Nat.zero_le _, rfl, hide (Below.refl _ _)⟩
  case round =>
    obtain ⟨k, hk, rfl, hbel⟩ := hrel
    by_cases hlt : k < len1
    · have hk' : k < l.length := by rw [← (unhide H1).1]; exact hlt
      obtain ⟨b, off, rfl, r1⟩ := ((unhide H1).keep (unhide hbel)).at hlt
      obtain ⟨b', off', rfl, r2⟩ := ((unhide H2).keep (unhide hbel)).at hlt
      obtain ⟨p0, p1, p2, p3⟩ := r1.c k hk'
      obtain ⟨q0, q1, q2, q3⟩ := r2.c k hk'
      clear r1 r2
      generalize l[k] = A at p0 p1 p2 p3 q0 q1 q2 q3
      have i0 : (0 : Int) ≤ (k : Int) := by omega
      have i1 : (k : Int) < (len1 : Int) := by omega
      go_wp2_with fail
      go_quiet (fail)
      go_wp2_with fail
      exact ⟨⟨k + 1, by omega, by go_num, hide (below_drewN (unhide hbel) _)⟩, by simp [intOf]; omega⟩
    · go_wp2_with fail
      go_ret
      exact ⟨rfl, unhide hbel⟩
set_option maxHeartbeats 400000 in
theorem zTexts_same (a1 a2 : Option Addr) (len1 c1 len2 c2 : Nat) (l : List ByteArray) (w : World) (h1 : SlS w a1 len1 l) (h2 : SlS w a2 len2 l) (hm : len1 ≤ maxLen) :
    Calls Try.prog 19 #[.slice a1 len1 c1, .slice a2 len2 c2] w fun e w' => e = .returned (.bool true) ∧ Below w.heap.size w w' := by
  unfold maxLen at hm
  obtain rfl : len1 = len2 := by rw [h1.1, h2.1]
  have H1 := hide h1
  have H2 := hide h2
  clear h1 h2
  have d1 : ((len1 : Int) != (len1 : Int)) = false := by simp
  go_enter Try.func19, Try.ntmps19
  go_wp2_with fail
  go_loopw [13] (fun i w' => ∃ k : Nat, k ≤ len1 ∧ i = .int .i64 k ∧ Hid (Below w.heap.size w w')) (fun i _ => len1 - (intOf i).toNat)
  case atStart => exact ⟨0, Nat.zero_le _, rfl, hide (Below.refl _ _)⟩
  case round =>
    obtain ⟨k, hk, rfl, hbel⟩ := hrel
    by_cases hlt : k < len1
    · have hk' : k < l.length := by rw [← (unhide H1).1]; exact hlt
      obtain ⟨b, off, rfl, r1⟩ := ((unhide H1).keep (unhide hbel)).at hlt
      obtain ⟨b', off', rfl, r2⟩ := ((unhide H2).keep (unhide hbel)).at hlt
      have p0 := r1.c k hk'
      have q0 := r2.c k hk'
      clear r1 r2
      generalize l[k] = A at p0 q0
      have i0 : (0 : Int) ≤ (k : Int) := by omega
      have i1 : (k : Int) < (len1 : Int) := by omega
      go_wp2_with fail
      go_quiet (fail)
      go_wp2_with fail
      exact ⟨⟨k + 1, by omega, by go_num, hide (below_drewN (unhide hbel) _)⟩, by simp [intOf]; omega⟩
    · go_wp2_with fail
      go_ret
      exact ⟨rfl, unhide hbel⟩
set_option maxHeartbeats 1000000 in
theorem zValue_same (v : ValT) (a1 a2 b1 b2 : Option Addr) (l1 c1 l2 c2 m1 e1 m2 e2 : Nat) (w : World) (hl1 : l1 ≤ maxLen) (hl2 : l2 ≤ maxLen)
    (hs1 : SlA w a1 l1 v.items) (hs2 : SlS w a2 l2 v.names) (ht1 : SlA w b1 m1 v.items) (ht2 : SlS w b2 m2 v.names) :
    Calls Try.prog 6 #[.agg #[.int .i64 v.k, .int .i64 v.a.x, .int .i64 v.a.n, .string v.a.t, .string v.a.y, .slice a1 l1 c1, .slice a2 l2 c2],
        .agg #[.int .i64 v.k, .int .i64 v.a.x, .int .i64 v.a.n, .string v.a.t, .string v.a.y, .slice b1 m1 e1, .slice b2 m2 e2]] w
      fun e w' => e = .returned (.bool true) ∧ Below w.heap.size w w' := by
  obtain ⟨W, hW⟩ : ∃ W, W = (w.alloc (.cells #[.int .i64 v.k, .int .i64 v.a.x, .int .i64 v.a.n, .string v.a.t, .string v.a.y, .slice a1 l1 c1, .slice a2 l2 c2] 29)).alloc (.cells #[.int .i64 v.k, .int .i64 v.a.x, .int .i64 v.a.n, .string v.a.t, .string v.a.y, .slice b1 m1 e1, .slice b2 m2 e2] 29) := ⟨_, rfl⟩
  have b0 : Below w.heap.size w W := by rw [hW]; exact bAl (bAl (Below.refl _ _) _) _
  have R1 : RowIs W w.heap.size #[.int .i64 v.k, .int .i64 v.a.x, .int .i64 v.a.n, .string v.a.t, .string v.a.y, .slice a1 l1 c1, .slice a2 l2 c2] 29 := by rw [hW]; exact (RowIs.new w _ _).keep (bAl (Below.refl _ _) _)
  have R2 : RowIs W (w.heap.size + 1) #[.int .i64 v.k, .int .i64 v.a.x, .int .i64 v.a.n, .string v.a.t, .string v.a.y, .slice b1 m1 e1, .slice b2 m2 e2] 29 := by rw [hW]; have := RowIs.new (w.alloc (.cells #[.int .i64 v.k, .int .i64 v.a.x, .int .i64 v.a.n, .string v.a.t, .string v.a.y, .slice a1 l1 c1, .slice a2 l2 c2] 29)) #[.int .i64 v.k, .int .i64 v.a.x, .int .i64 v.a.n, .string v.a.t, .string v.a.y, .slice b1 m1 e1, .slice b2 m2 e2] 29; simpa using this
  have Q1 := hide (fun w h1 h2 => zAtoms_same a1 b1 l1 c1 m1 e1 v.items w h1 h2 hl1)
  have Q2 := hide (fun w h1 h2 => zTexts_same a2 b2 l2 c2 m2 e2 v.names w h1 h2 hl2)
  have S1 := hide (hs1.keep b0)
  have S2 := hide (hs2.keep b0)
  have T1 := hide (ht1.keep b0)
  have T2 := hide (ht2.keep b0)
  have B := hide b0
  have HW := hide hW.symm
  have z1 := R1.lt
  have z2 := R2.lt
  have R1h := hide R1
  have R2h := hide R2
  clear hW b0 hs1 hs2 ht1 ht2 hl1 hl2 R1 R2 z1 z2
  go_enter Try.func6, Try.ntmps6
  go_wp2_with fail
  rw [unhide HW]
  refine (unhide Q1 _ (unhide S1) (unhide T1)).mono ?_
  rintro e w1 ⟨rfl, hb1⟩
  have c6 := ((unhide R1h).keep hb1).at (o := 6) (v := .slice a2 l2 c2) rfl
  have d6 := ((unhide R2h).keep hb1).at (o := 6) (v := .slice b2 m2 e2) rfl
  have Q3 := hide (unhide Q2 _ ((unhide S2).keep hb1) ((unhide T2).keep hb1))
  have B2 := hide (bTr (unhide B) hb1)
  clear hb1 Q1 Q2 HW
  go_wp2_with fail
  refine (unhide Q3).mono ?_
  rintro e w2 ⟨rfl, hb2⟩
  have B3 := hide (bTr (unhide B2) hb2)
  clear hb2 Q3 c6 d6
  go_wp2_with fail
  go_ret
  exact ⟨rfl, unhide B3⟩
end Go.Proofs.Ytlnmhjihfolliaa.V
