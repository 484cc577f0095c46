/- spec.GoodCaveat. -/
import Derived.Test.YtmkgehcfdcoliaaGreatRSpT
namespace Go.Proofs.YtmkgehcfdcoliaaGreat.V
open Go.RowKit

set_option maxRecDepth 20000 in
set_option maxHeartbeats 4000000 in
theorem sGoodCaveat_any (n : ByteArray) (l : List ParamT) (ts : List CavTermT) (a1 a2 : Option Addr) (l1 c1 l2 c2 : Nat) (w : World) (hn : n.size ≤ maxLen) (hl1 : l1 ≤ 1048576) (hl2 : l2 ≤ 1048576)
    (hs1 : SlParam w a1 l1 l) (hs2 : SlCavTerm w a2 l2 ts) (hok : ∀ q ∈ l, ParamT.Ok q) (hot : ∀ q ∈ ts, CavTermT.Ok q) :
    Calls Tryz.prog 17 #[.agg #[.string n, .slice a1 l1 c1, .slice a2 l2 c2]] w fun e w' => RetB e (GCav n l ts) ∧ Below w.heap.size w w' := by
  have HS1 := hide hs1
  have HS2 := hide hs2
  have HO := hide hok
  have HT := hide hot
  have q1 := hide (fun w => sGoodName_any n hn w)
  have L1 := hide hs1.1
  have L2 := hide hs2.1
  have R0 := hide (RowIs.new w #[.string n, .slice a1 l1 c1, .slice a2 l2 c2] 38)
  have B0 := hide (bAl (Below.refl w.heap.size w) (.cells #[.string n, .slice a1 l1 c1, .slice a2 l2 c2] 38))
  clear hs1 hs2 hok hot
  have NO : Hid (∀ {W : World}, ¬ GCav n l ts → Below w.heap.size w W → RetB (.returned (.bool false)) (GCav n l ts) ∧ Below w.heap.size w W) := hide (fun h k => ⟨retB (b := false) ⟨fun h => (by cases h), fun h' => absurd h' h⟩, k⟩)
  cases hg : goodName n
  · have N : Hid (¬ GCav n l ts) := hide (fun h => by have := h.name; rw [hg] at this; cases this)
    rw [hg] at q1
    clear hg
    go_enter Tryz.func17, Tryz.ntmps17
    go_wp2_with (go_at_call 36; refine (unhide q1 _).mono ?_; rintro e w' ⟨rfl, rfl⟩)
    go_ret
    exact unhide NO (unhide N) (unhide B0)
  rw [hg] at q1
  have G := hide hg
  clear hg
  by_cases hbad : ¬ (1 ≤ l1 ∧ l1 ≤ 6 ∧ 1 ≤ l2 ∧ l2 ≤ 6)
  · have N : Hid (¬ GCav n l ts) := hide (fun h => hbad (by rw [unhide L1, unhide L2]; exact ⟨h.p0, h.p6, h.t0, h.t6⟩))
    rcases (by omega : (l1 : Int) < 1 ∨ (1 ≤ (l1 : Int) ∧ (6 : Int) < l1) ∨ (1 ≤ (l1 : Int) ∧ (l1 : Int) ≤ 6 ∧ (l2 : Int) < 1) ∨ (1 ≤ (l1 : Int) ∧ (l1 : Int) ≤ 6 ∧ 1 ≤ (l2 : Int) ∧ (6 : Int) < l2)) with p | ⟨p, p'⟩ | ⟨p, p', p''⟩ | ⟨p, p', p'', p3⟩
    all_goals
      clear hbad
      go_enter Tryz.func17, Tryz.ntmps17
      go_wp2_with (go_at_call 36; refine (unhide q1 _).mono ?_; rintro e w' ⟨rfl, rfl⟩)
      go_ret
      exact unhide NO (unhide N) (unhide B0)
  replace hbad := Classical.not_not.1 hbad
  obtain ⟨p1, p2, p3, p4⟩ := hbad
  have P1 : (1 : Int) ≤ (l1 : Int) := by omega
  have P2 : (l1 : Int) ≤ 6 := by omega
  have P3 : (1 : Int) ≤ (l2 : Int) := by omega
  have P4 : (l2 : Int) ≤ 6 := by omega
  go_enter Tryz.func17, Tryz.ntmps17
  go_wp2_with (go_at_call 36; refine (unhide q1 _).mono ?_; rintro e w' ⟨rfl, rfl⟩)
  clear P1 P2 P3 P4
  go_loopw [38] (fun i w' => ∃ k : Nat, k ≤ l1 ∧ i = .int .i64 k ∧ Hid (Below w.heap.size w w') ∧ Hid (RowIs w' w.heap.size #[.string n, .slice a1 l1 c1, .slice a2 l2 c2] 38) ∧ Hid (AllP l k) ∧ Hid (RisP l k)) (fun i _ => l1 - (Go.RowKit.intOf i).toNat)
  case atStart => exact ⟨0, Nat.zero_le _, rfl, B0, R0, hide (fun i _ h => absurd h (Nat.not_lt_zero _)), hide (fun i _ _ h => absurd h (Nat.not_lt_zero _))⟩
  case round =>
    clear B0 R0
    obtain ⟨k, hk, rfl, hb, hr, hA, hR⟩ := hrel
    have zr := (unhide hr).lt
    by_cases hlt : k < l1
    · have hk' : k < l.length := by rw [← unhide L1]; exact hlt
      obtain ⟨b, off, rfl, hrow⟩ := ((unhide HS1).keep (unhide hb)).at hlt
      have c0 := hrow.c0 k hk'
      have c1' := hrow.c1 k hk'
      have zk := hrow.z
      have ho := unhide HO _ (List.getElem_mem hk')
      have q2 := hide (fun w => sGoodName_any (l[k]).f0 ho.o0 w)
      have eA : Hid (gPar l[k] = true → AllP l (k + 1)) := hide (fun g => (unhide hA).step hk' g)
      have eN : Hid (¬ gPar l[k] = true → ¬ GCav n l ts) := hide (fun g h => g (h.all k hk' hk'))
      obtain ⟨W2, hW2⟩ : ∃ W, W = wr.alloc (.cells #[.string (l[k]).f0, .int .i64 (l[k]).f1] 78) := ⟨_, rfl⟩
      have b2 : Below wr.heap.size wr W2 := by rw [hW2]; exact bAl (Below.refl _ _) _
      have rb := show RowIs W2 wr.heap.size #[.string (l[k]).f0, .int .i64 (l[k]).f1] 78 by rw [hW2]; exact RowIs.new _ _ _
      have HB := hide (bTr (unhide hb) b2)
      have hr2 := (unhide hr).keep b2
      have HR2 := hide hr2
      have HW := hide hW2.symm
      have ne : Nonempty (Kept W2) := ⟨⟨W2, Below.refl _ _⟩⟩
      have x0 := kept_cell rb.lt (rb.at (o := 0) (v := .string (l[k]).f0) rfl)
      have x1 := kept_cell rb.lt (rb.at (o := 1) (v := .int .i64 (l[k]).f1) rfl)
      have y1 := kept_cell hr2.lt (hr2.at (o := 1) (v := .slice (some ⟨b, off, none⟩) l1 c1) rfl)
      clear hW2 rb hr2
      have gP : Hid (gPar l[k] = (goodName (l[k]).f0 && (!((l[k]).f0.toList == [116, 114, 117, 101]) && (!((l[k]).f0.toList == [102, 97, 108, 115, 101]) && (decide (1 ≤ (l[k]).f1) && decide ((l[k]).f1 ≤ 7)))))) := hide rfl
      cases hX : goodName (l[k]).f0
      · rw [hX] at q2
        have N := hide (unhide eN (by rw [unhide gP, hX]; simp))
        clear eA eN hX hrow gP
        generalize l[k] = A at *
        go_wp2_with fail
        rw [unhide HW]
        refine wp_region_kept (by kernel_rfl) (by kernel_rfl) ?_
        repeat (first
          | go_big_quiet_step ((go_at_call 36; exact kept_same (unhide q2 _)))
          | quiet_step ((go_at_call 36; exact kept_same (unhide q2 _))))
        refine wpQuiet_nil ?_
        rintro _ ⟨q, rfl⟩
        go_wp2_with fail
        go_ret
        exact unhide NO (unhide N) (bTr (unhide HB) q.h)
      cases eT : ((l[k]).f0.toList == [116, 114, 117, 101])
      case true =>
        rw [hX] at q2
        have N := hide (unhide eN (by rw [unhide gP, hX, eT]; simp))
        clear eA eN hX hrow gP
        generalize l[k] = A at *
        go_wp2_with fail
        rw [unhide HW]
        refine wp_region_kept (by kernel_rfl) (by kernel_rfl) ?_
        repeat (first
          | go_big_quiet_step ((go_at_call 36; exact kept_same (unhide q2 _)))
          | quiet_step ((go_at_call 36; exact kept_same (unhide q2 _))))
        refine wpQuiet_nil ?_
        rintro _ ⟨q, rfl⟩
        go_wp2_with fail
        go_ret
        exact unhide NO (unhide N) (bTr (unhide HB) q.h)
      cases eF : ((l[k]).f0.toList == [102, 97, 108, 115, 101])
      case true =>
        rw [hX] at q2
        have N := hide (unhide eN (by rw [unhide gP, hX, eT, eF]; simp))
        clear eA eN hX hrow gP
        generalize l[k] = A at *
        go_wp2_with fail
        rw [unhide HW]
        refine wp_region_kept (by kernel_rfl) (by kernel_rfl) ?_
        repeat (first
          | go_big_quiet_step ((go_at_call 36; exact kept_same (unhide q2 _)))
          | quiet_step ((go_at_call 36; exact kept_same (unhide q2 _))))
        refine wpQuiet_nil ?_
        rintro _ ⟨q, rfl⟩
        go_wp2_with fail
        go_ret
        exact unhide NO (unhide N) (bTr (unhide HB) q.h)
      by_cases d1 : (l[k]).f1 < 1
      · rw [hX] at q2
        have N := hide (unhide eN (by rw [unhide gP, hX, eT, eF]; simp; omega))
        clear eA eN hX hrow gP
        generalize l[k] = A at *
        replace d1 := decide_eq_true d1
        go_wp2_with fail
        rw [unhide HW]
        refine wp_region_kept (by kernel_rfl) (by kernel_rfl) ?_
        repeat (first
          | go_big_quiet_step ((go_at_call 36; exact kept_same (unhide q2 _)))
          | quiet_step ((go_at_call 36; exact kept_same (unhide q2 _))))
        refine wpQuiet_nil ?_
        rintro _ ⟨q, rfl⟩
        go_wp2_with fail
        go_ret
        exact unhide NO (unhide N) (bTr (unhide HB) q.h)
      by_cases d7 : 7 < (l[k]).f1
      · rw [hX] at q2
        have N := hide (unhide eN (by rw [unhide gP, hX, eT, eF]; simp; omega))
        clear eA eN hX hrow gP
        generalize l[k] = A at *
        replace d1 := decide_eq_false d1
        replace d7 := decide_eq_true d7
        go_wp2_with fail
        rw [unhide HW]
        refine wp_region_kept (by kernel_rfl) (by kernel_rfl) ?_
        repeat (first
          | go_big_quiet_step ((go_at_call 36; exact kept_same (unhide q2 _)))
          | quiet_step ((go_at_call 36; exact kept_same (unhide q2 _))))
        refine wpQuiet_nil ?_
        rintro _ ⟨q, rfl⟩
        go_wp2_with fail
        go_ret
        exact unhide NO (unhide N) (bTr (unhide HB) q.h)
      have GP := hide (unhide eA (by rw [unhide gP, hX, eT, eF]; simp; omega))
      rw [hX] at q2
      clear eA eN hX gP
      replace d1 := decide_eq_false d1
      replace d7 := decide_eq_false d7
      rcases Nat.eq_zero_or_pos k with rfl | hpos
      · have eR : Hid (RisP l (0 + 1)) := hide ((unhide hR).step hk' (fun h => absurd h (by omega)))
        clear hrow
        generalize l[0] = A at *
        rw [Nat.zero_mul, Nat.add_zero] at c0 c1'
        go_wp2_with fail
        rw [unhide HW]
        refine wp_region_kept (by kernel_rfl) (by kernel_rfl) ?_
        repeat (first
          | go_big_quiet_step ((go_at_call 36; exact kept_same (unhide q2 _)))
          | quiet_step ((go_at_call 36; exact kept_same (unhide q2 _))))
        refine wpQuiet_nil ?_
        rintro _ ⟨q, rfl⟩
        go_wp2_with fail
        exact ⟨⟨0 + 1, by omega, by go_num, hide (bTr (unhide HB) q.h), hide ((unhide HR2).keep q.h), GP, eR⟩, by simp [Go.RowKit.intOf]; omega⟩
      · obtain ⟨j, rfl⟩ : ∃ j, k = j + 1 := ⟨k - 1, by omega⟩
        have hj : j < l.length := by omega
        have hj' := unhide HO _ (List.getElem_mem hj)
        have p0 := kept_cell (Nat.lt_of_lt_of_le zk b2.size) (cellB b2 zk (hrow.c0 j hj))
        have q3 := hide (fun w => cmpText_any (l[j]).f0 (l[j + 1]).f0 w hj'.o0)
        have eR0 : Hid (cmpT (l[j]).f0.data.toList (l[j + 1]).f0.data.toList < 0 → RisP l (j + 1 + 1)) := hide (fun g => (unhide hR).step hk' (fun _ => g))
        have eN : Hid (¬ cmpT (l[j]).f0.data.toList (l[j + 1]).f0.data.toList < 0 → ¬ GCav n l ts) := hide (fun g h => g (h.ris (j + 1) hk' (by omega) hk'))
        have ej : IntKind.i64.wrap ((j : Int) + 1 - 1) = (j : Int) := by rw [IntKind.wrap_i64]; omega
        have i0 : (0 : Int) ≤ (j : Int) := by omega
        have i1 : (j : Int) < (l1 : Int) := by omega
        have i2 : (j : Int) + 1 < (l1 : Int) := by omega
        have i3 : decide ((0 : Int) < (j : Int) + 1) = true := decide_eq_true (by omega)
        clear hrow ho hj'
        generalize l[j + 1] = A at *
        generalize l[j] = E at *
        generalize cmpT E.f0.data.toList A.f0.data.toList = V at *
        by_cases hc : V < 0
        · have dc : decide (0 ≤ V) = false := by simp; omega
          have eR := hide (unhide eR0 hc)
          clear hc eR0 eN
          go_wp2_with fail
          rw [unhide HW]
          refine wp_region_kept (by kernel_rfl) (by kernel_rfl) ?_
          repeat (first
            | go_big_quiet_step (first | (go_at_call 36; exact kept_same (unhide q2 _)) | (go_at_call 37; exact kept_call (unhide q3 _)))
            | quiet_step (first | (go_at_call 36; exact kept_same (unhide q2 _)) | (go_at_call 37; exact kept_call (unhide q3 _))))
          refine wpQuiet_nil ?_
          rintro _ ⟨q, rfl⟩
          go_wp2_with fail
          exact ⟨⟨j + 1 + 1, by omega, by go_num, hide (bTr (unhide HB) q.h), hide ((unhide HR2).keep q.h), GP, eR⟩, by simp [Go.RowKit.intOf]; omega⟩
        · have dc : decide (0 ≤ V) = true := by simp; omega
          have N := hide (unhide eN hc)
          clear hc eR0 eN
          go_wp2_with fail
          rw [unhide HW]
          refine wp_region_kept (by kernel_rfl) (by kernel_rfl) ?_
          repeat (first
            | go_big_quiet_step (first | (go_at_call 36; exact kept_same (unhide q2 _)) | (go_at_call 37; exact kept_call (unhide q3 _)))
            | quiet_step (first | (go_at_call 36; exact kept_same (unhide q2 _)) | (go_at_call 37; exact kept_call (unhide q3 _))))
          refine wpQuiet_nil ?_
          rintro _ ⟨q, rfl⟩
          go_wp2_with fail
          go_ret
          exact unhide NO (unhide N) (bTr (unhide HB) q.h)
    · have ek : k = l1 := by omega
      subst ek
      have AP : Hid (AllP l l.length) := hide (by rw [← unhide L1]; exact unhide hA)
      have RP : Hid (RisP l l.length) := hide (by rw [← unhide L1]; exact unhide hR)
      have y2 := (unhide hr).at (o := 2) (v := .slice a2 l2 c2) rfl
      have HR0 := hr
      have HB0 := hb
      clear hr hb
      go_wp2_with fail
      clear y2
      go_loopw [88] (fun i w' => ∃ m : Nat, m ≤ l2 ∧ i = .int .i64 m ∧ Hid (Below w.heap.size w w') ∧ Hid (RowIs w' w.heap.size #[.string n, .slice a1 k c1, .slice a2 l2 c2] 38) ∧ Hid (AllT l ts m)) (fun i _ => l2 - (Go.RowKit.intOf i).toNat)
      case atStart => exact ⟨0, Nat.zero_le _, rfl, HB0, HR0, hide (fun i _ h => absurd h (Nat.not_lt_zero _))⟩
      case round =>
        clear HB0 HR0
        obtain ⟨m, hm, rfl, hb, hr, hT⟩ := hrel
        have zr := (unhide hr).lt
        by_cases hlt : m < l2
        · have hm' : m < ts.length := by rw [← unhide L2]; exact hlt
          obtain ⟨b, off, rfl, hrow⟩ := ((unhide HS2).keep (unhide hb)).at hlt
          have c0 := hrow.c0 m hm'
          have c1' := hrow.c1 m hm'
          have c2' := hrow.c2 m hm'
          have c3 := hrow.c3 m hm'
          have c4 := hrow.c4 m hm'
          have c5 := hrow.c5 m hm'
          have c6 := hrow.c6 m hm'
          have zk := hrow.z
          have ho := unhide HT _ (List.getElem_mem hm')
          have q4 := hide (fun w (hs : SlParam w a1 k l) => l6GoodTerm_any ts[m] a1 k c1 l w ho hl1 hs)
          have eY : Hid (GTerm l ts[m] → AllT l ts (m + 1)) := hide (fun g => (unhide hT).step hm' g)
          have eN : Hid (¬ GTerm l ts[m] → ¬ GCav n l ts) := hide (fun g h => g (h.terms m hm' hm'))
          have y1 := (unhide hr).at (o := 1) (v := .slice a1 k c1) rfl
          clear hrow ho
          generalize ts[m] = A at *
          obtain ⟨W2, hW2⟩ : ∃ W, W = wr.alloc (.cells #[.string A.f0, .int .i64 A.f1, .string A.f2, .int .i64 A.f3, .int .i64 A.f4, .string A.f5, .string A.f6] 81) := ⟨_, rfl⟩
          have b2 : Below wr.heap.size wr W2 := by rw [hW2]; exact bAl (Below.refl _ _) _
          have HB := hide (bTr (unhide hb) b2)
          have HR2 := hide ((unhide hr).keep b2)
          have HW := hide hW2.symm
          clear hW2 b2
          go_wp2_with fail
          rw [unhide HW]
          refine (unhide q4 _ ((unhide HS1).keep (unhide HB))).mono ?_
          rintro e w3 ⟨⟨v, rfl, hv⟩, hb3⟩
          have HV := hide hv
          have B3 := hide (bTr (unhide HB) hb3)
          have R3 := hide ((unhide HR2).keep hb3)
          clear hv hb3 q4 HW c0 c1' c2' c3 c4 c5 c6 y1 HB HR2
          cases v
          · have N := hide (unhide eN (fun h => by have := (unhide HV).2 h; cases this))
            clear eY eN HV
            go_wp2_with fail
            go_ret
            exact unhide NO (unhide N) (unhide B3)
          · have Y := hide (unhide eY ((unhide HV).1 rfl))
            clear eY eN HV
            go_wp2_with fail
            exact ⟨⟨m + 1, by omega, by go_num, B3, R3, Y⟩, by simp [Go.RowKit.intOf]; omega⟩
        · have Y : Hid (GCav n l ts) := hide ⟨unhide G, by rw [← unhide L1]; exact p1, by rw [← unhide L1]; exact p2, by rw [← unhide L2]; exact p3, by rw [← unhide L2]; exact p4, unhide AP, unhide RP, by
            have e : m = ts.length := by rw [← unhide L2]; omega
            rw [← e]; exact unhide hT⟩
          go_wp2_with fail
          go_ret
          exact ⟨retB (b := true) ⟨fun _ => unhide Y, fun _ => rfl⟩, unhide hb⟩
end Go.Proofs.YtmkgehcfdcoliaaGreat.V
