/- WValJ, WVal, one behind the other. -/
import Derived.Test.YtdflnjjomljgmaaGreatDoorJ18
/- WValJ, ported from seat 1a. -/
namespace Go.Proofs.YtdflnjjomljgmaaGreatDoor.V
open Go.RowKit

set_option maxHeartbeats 1000000 in
theorem risingN_any (a : Option Addr) (len cap : Nat) (l : List ByteArray) (w : World) (hl : len ≤ 50) (hs : SlS w a len l) :
    Calls Tryz.prog 100 #[.slice a len cap, .func (.func 101) #[] #[]] w fun e w' => RetB e (RisN l l.length) ∧ Below w.heap.size w w' := by
  have HS := hide hs
  clear hs
  go_enter Tryz.func100, Tryz.ntmps100
  go_wp2
  go_loopw [5] (fun i w' => ∃ k : Nat, 1 ≤ k ∧ (k ≤ len ∨ k = 1) ∧ i = .int .i64 k ∧ Hid (Below w.heap.size w w') ∧ Hid (RisN l k)) (fun i _ => len - (intOf i).toNat)
  case atStart => exact ⟨1, Nat.le_refl _, .inr rfl, rfl, hide (Below.refl _ _), hide (fun i _ h h' => absurd h (by omega))⟩
  case round =>
    obtain ⟨k, hk1, hk, rfl, hb, hris⟩ := hrel
    by_cases hlt : k < len
    · obtain ⟨j, rfl⟩ : ∃ j, k = j + 1 := ⟨k - 1, by omega⟩
      have hk' : j + 1 < l.length := by rw [← (unhide HS).1]; exact hlt
      obtain ⟨b, off, rfl, hrow⟩ := ((unhide HS).keep (unhide hb)).at hlt
      have pk := hrow.c (j + 1) hk'
      have pj := hrow.c j (by omega)
      have zk := hrow.z
      have qc := hide (fun w => stringsCompare_any l[j] l[j + 1] w)
      have stepR := hide (fun g : cmpT l[j].data.toList l[j + 1].data.toList < 0 => (unhide hris).step hk' (fun _ => g))
      have noR := hide (fun (g : ¬ cmpT l[j].data.toList l[j + 1].data.toList < 0) (h : RisN l l.length) => g (h (j + 1) hk' (by omega) hk'))
      clear hrow
      generalize l[j + 1] = P at *
      generalize l[j] = Q at *
      have ne : Nonempty (Kept wr) := ⟨⟨wr, Below.refl _ _⟩⟩
      have x0 := kept_cell zk pk
      have t0 := kept_cell zk pj
      have ej : IntKind.i64.wrap ((j : Int) + 1 - 1) = (j : Int) := by rw [IntKind.wrap_i64]; omega
      have i0 : (0 : Int) ≤ (j : Int) := by omega
      have i1 : (j : Int) < (len : Int) := by omega
      have i2 : (j : Int) + 1 < (len : Int) := by omega
      clear pk pj
      by_cases hc : cmpT Q.data.toList P.data.toList < 0
      · have dc : decide (0 ≤ cmpT Q.data.toList P.data.toList) = false := by simp; omega
        replace stepR := hide (unhide stepR hc)
        clear hc
        go_wp2_with fail
        refine wp_region_kept (by kernel_rfl) (by kernel_rfl) ?_
        repeat (first
          | go_big_quiet_step ((go_at_call 101; exact kept_same (unhide qc _)))
          | quiet_step ((go_at_call 101; exact kept_same (unhide qc _))))
        refine wpQuiet_nil ?_
        rintro _ ⟨q, rfl⟩
        go_wp2_with fail
        exact ⟨⟨j + 1 + 1, by omega, by omega, by go_num, hide (bTr (unhide hb) q.h), stepR⟩, by simp [intOf]; omega⟩
      · have dc : decide (0 ≤ cmpT Q.data.toList P.data.toList) = true := by simp; omega
        replace noR := hide (unhide noR hc)
        clear hc
        go_wp2_with fail
        refine wp_region_kept (by kernel_rfl) (by kernel_rfl) ?_
        repeat (first
          | go_big_quiet_step ((go_at_call 101; exact kept_same (unhide qc _)))
          | quiet_step ((go_at_call 101; exact kept_same (unhide qc _))))
        refine wpQuiet_nil ?_
        rintro _ ⟨q, rfl⟩
        go_wp2_with fail
        go_ret
        exact ⟨retB (b := false) ⟨fun h => (by cases h), fun h => absurd h (unhide noR)⟩, bTr (unhide hb) q.h⟩
    · have hR : Hid (RisN l l.length) := hide (fun i h h0 h1 => by
        have hl' := (unhide HS).1
        exact unhide hris i h h0 (by omega))
      go_wp2_with fail
      go_ret
      exact ⟨retB (b := true) ⟨fun _ => unhide hR, fun _ => rfl⟩, unhide hb⟩

set_option maxHeartbeats 400000 in
theorem goodSet_any (a : Option Addr) (len cap : Nat) (l : List AtomT) (w : World) (hl : len ≤ maxLen) (hs : SlA w a len l) (hi : ∀ q ∈ l, AtomT.Ok q) :
    Calls Tryz.prog 79 #[.slice a len cap] w fun e w' => RetB e (l.length ≤ 50 ∧ AllA l l.length ∧ RisA l l.length) ∧ Below w.heap.size w w' := by
  have qa := hide (goodItems_any a len cap l w hl hs hi)
  have HS := hide hs
  by_cases h : l.length ≤ 50 ∧ AllA l l.length
  · have qr := hide (fun w (hs : SlA w a len l) => risingA_any a len cap l w (by rw [hs.1]; exact h.1) hs hi h.2)
    have H := hide h
    clear hs h hi
    go_enter Tryz.func79, Tryz.ntmps79
    go_wp2_with fail
    refine (unhide qa).mono ?_
    rintro e w5 ⟨⟨b, rfl, hb⟩, hb5⟩
    obtain rfl : b = true := hb.2 (unhide H)
    clear hb qa
    go_wp2_with fail
    refine (unhide qr _ ((unhide HS).keep hb5)).mono ?_
    rintro e w6 ⟨⟨b, rfl, hb⟩, hb6⟩
    have HB := hide hb
    clear hb
    go_wp2_with fail
    go_ret
    exact ⟨retB (by rw [unhide HB]; exact ⟨fun h => ⟨(unhide H).1, (unhide H).2, h⟩, fun h => h.2.2⟩), bTr hb5 hb6⟩
  · have H := hide h
    clear hs h hi
    go_enter Tryz.func79, Tryz.ntmps79
    go_wp2_with fail
    refine (unhide qa).mono ?_
    rintro e w5 ⟨⟨b, rfl, hb⟩, hb5⟩
    obtain rfl : b = false := by
      cases b
      · rfl
      · exact absurd (hb.1 rfl) (unhide H)
    clear hb qa
    go_wp2_with fail
    go_ret
    exact ⟨retB (b := false) ⟨fun h => (by cases h), fun h => absurd ⟨h.1, h.2.1⟩ (unhide H)⟩, hb5⟩

set_option maxHeartbeats 1000000 in
theorem goodRecord_any (a a2 : Option Addr) (len cap l2 c2 : Nat) (l : List AtomT) (n : List ByteArray) (w : World) (hl : len ≤ maxLen) (hs : SlA w a len l) (hs2 : SlS w a2 l2 n) (hi : ∀ q ∈ l, AtomT.Ok q) (hn : ∀ q ∈ n, ByteArray.size q ≤ maxLen) :
    Calls Tryz.prog 80 #[.slice a2 l2 c2, .slice a len cap] w fun e w' => RetB e (n.length = l.length ∧ (l.length ≤ 50 ∧ AllA l l.length) ∧ AllN n n.length ∧ RisN n n.length) ∧ Below w.heap.size w w' := by
  have qa := hide (goodItems_any a len cap l w hl hs hi)
  have HS := hide hs
  have HS2 := hide hs2
  clear hs hs2 hi
  by_cases hne : l2 = len
  · subst hne
    by_cases h : l.length ≤ 50 ∧ AllA l l.length
    · have h50 : l2 ≤ 50 := by rw [(unhide HS).1]; exact h.1
      have qr := hide (fun w (hs : SlS w a2 l2 n) => risingN_any a2 l2 c2 n w h50 hs)
      have H := hide h
      clear h
      go_enter Tryz.func80, Tryz.ntmps80
      go_wp2_with fail
      refine (unhide qa).mono ?_
      rintro e w5 ⟨⟨b, rfl, hb⟩, hb5⟩
      obtain rfl : b = true := hb.2 (unhide H)
      clear hb qa
      go_wp2_with fail
      go_loopw [19] (fun i w' => ∃ k : Nat, k ≤ l2 ∧ i = .int .i64 k ∧ Hid (Below w.heap.size w w') ∧ Hid (AllN n k)) (fun i _ => l2 - (intOf i).toNat)
      case atStart => exact ⟨0, Nat.zero_le _, rfl, hide hb5, hide (fun i _ h => absurd h (Nat.not_lt_zero _))⟩
      case round =>
        obtain ⟨k, hk, rfl, hb, hall⟩ := hrel
        clear hb5
        by_cases hlt : k < l2
        · have hk' : k < n.length := by rw [← (unhide HS2).1]; exact hlt
          obtain ⟨b, off, rfl, hrow⟩ := ((unhide HS2).keep (unhide hb)).at hlt
          have c0 := hrow.c k hk'
          have qk := hide (fun w => iGoodName_any n[k] (hn _ (List.getElem_mem hk')) w)
          have stepA := hide (fun g => (unhide hall).step hk' g)
          have noA : Hid (goodName n[k] = false → ¬ AllN n n.length) := hide (fun g h => by have := h k hk' hk'; rw [g] at this; cases this)
          clear hrow
          generalize n[k] = P at *
          cases g : goodName P
          · rw [g] at qk
            replace noA := hide (unhide noA g)
            clear g
            go_wp2_with (go_at_call 76; refine (unhide qk _).mono ?_; rintro e w6 ⟨rfl, hb6⟩)
            go_ret
            exact ⟨retB (b := false) ⟨fun h => (by cases h), fun h => absurd h.2.2.1 (unhide noA)⟩, bTr (unhide hb) hb6⟩
          · rw [g] at qk
            replace stepA := hide (unhide stepA g)
            clear g
            go_wp2_with (go_at_call 76; refine (unhide qk _).mono ?_; rintro e w6 ⟨rfl, hb6⟩)
            exact ⟨⟨k + 1, by omega, by go_num, hide (bTr (unhide hb) hb6), stepA⟩, by simp [intOf]; omega⟩
        · have e : k = n.length := by rw [← (unhide HS2).1]; omega
          have hA : Hid (AllN n n.length) := hide (by rw [← e]; exact unhide hall)
          clear e
          go_wp2_with fail
          refine (unhide qr _ ((unhide HS2).keep (unhide hb))).mono ?_
          rintro e w6 ⟨⟨b, rfl, hb'⟩, hb6⟩
          have HB := hide hb'
          clear hb'
          go_wp2_with fail
          go_ret
          exact ⟨retB (by rw [unhide HB]; exact ⟨fun h => ⟨by rw [← (unhide HS).1, ← (unhide HS2).1], unhide H, unhide hA, h⟩, fun h => h.2.2.2⟩), bTr (unhide hb) hb6⟩
    · have H := hide h
      clear h
      go_enter Tryz.func80, Tryz.ntmps80
      go_wp2_with fail
      refine (unhide qa).mono ?_
      rintro e w5 ⟨⟨b, rfl, hb⟩, hb5⟩
      obtain rfl : b = false := by
        cases b
        · rfl
        · exact absurd (hb.1 rfl) (unhide H)
      clear hb qa
      go_wp2_with fail
      go_ret
      exact ⟨retB (b := false) ⟨fun h => (by cases h), fun h => absurd h.2.1 (unhide H)⟩, hb5⟩
  · have d : ((l2 : Int) != (len : Int)) = true := by simp; omega
    have HN := hide hne
    clear hne
    go_enter Tryz.func80, Tryz.ntmps80
    go_wp2_with fail
    go_ret
    exact ⟨retB (b := false) ⟨fun h => (by cases h), fun h => absurd h.1 (by rw [← (unhide HS).1, ← (unhide HS2).1]; exact unhide HN)⟩, Below.refl _ _⟩
end Go.Proofs.YtdflnjjomljgmaaGreatDoor.V
/- WVal, ported from seat 1a. -/
namespace Go.Proofs.YtdflnjjomljgmaaGreatDoor.V
open Go.RowKit

set_option maxHeartbeats 1000000 in
theorem iGoodValue_1 (A : AtomT) (items : List AtomT) (names : List ByteArray) (hv : A.Ok) (a1 a2 : Option Addr) (l1 c1 l2 c2 : Nat) (w : World) (e1 : l1 = items.length) (e2 : l2 = names.length) :
    Calls Tryz.prog 53 #[.agg #[.int .i64 1, .int .i64 A.x, .int .i64 A.n, .string A.t, .string A.y, .slice a1 l1 c1, .slice a2 l2 c2]] w
      fun e w' => RetB e (GoodVal ⟨1, A, items, names⟩) ∧ Below w.heap.size w w' := by
  have hg : GoodVal ⟨1, A, items, names⟩ ↔ (A.good = true ∧ ((l1 : Int) == 0) = true ∧ ((l2 : Int) == 0) = true) := by
    rw [len_zero_iff e1, len_zero_iff e2]; exact goodVal_1 A items names
  have hq := hide (fun w => AtomT.iGood A hv w)
  have HG := hide hg
  clear hg e1 e2 hv
  cases g0 : A.good
  · rw [g0] at hq HG
    clear g0
    go_enter Tryz.func53, Tryz.ntmps53
    go_wp2_with fail
    refine (unhide hq _).mono ?_
    rintro e w1 ⟨rfl, hb1⟩
    go_wp2_with fail
    go_ret
    exact ⟨retB (b := false) (by rw [unhide HG]; simp), bTr (bAl (Below.refl _ _) _) hb1⟩
  · rw [g0] at hq HG
    clear g0
    cases g1 : ((l1 : Int) == 0) <;> cases g2 : ((l2 : Int) == 0)
    all_goals
      go_enter Tryz.func53, Tryz.ntmps53
      go_wp2_with fail
      refine (unhide hq _).mono ?_
      rintro e w1 ⟨rfl, hb1⟩
      obtain ⟨_, _, _, _, _, d5, d6, _⟩ := (ValAt.new w ⟨1, A, items, names⟩ (.slice a1 l1 c1) (.slice a2 l2 c2) 43).keep hb1
      go_wp2_with fail
      go_ret
      exact ⟨retB (by rw [unhide HG, g1, g2]; simp), bTr (bAl (Below.refl _ _) _) hb1⟩

theorem iGoodValue_else (v : ValT) (a1 a2 : Option Addr) (l1 c1 l2 c2 : Nat) (w : World) (h1 : ¬ v.k = 1) (h2 : ¬ v.k = 2) (h3 : ¬ v.k = 3) :
    Calls Tryz.prog 53 #[.agg #[.int .i64 v.k, .int .i64 v.a.x, .int .i64 v.a.n, .string v.a.t, .string v.a.y, .slice a1 l1 c1, .slice a2 l2 c2]] w
      fun e w' => RetB e (GoodVal v) ∧ Below w.heap.size w w' := by
  have hg : ¬ GoodVal v := by
    unfold GoodVal
    rintro (h | h | h)
    · exact h1 h.1
    · exact h2 h.1
    · exact h3 h.1
  have HG := hide hg
  have t1 : (v.k == 1) = false := by simpa using h1
  have t2 : (v.k == 2) = false := by simpa using h2
  have t3 : (v.k == 3) = false := by simpa using h3
  clear h1 h2 h3 hg
  go_enter Tryz.func53, Tryz.ntmps53
  go_wp2_with fail
  go_ret
  exact ⟨retB (b := false) (by simp [unhide HG]), bAl (Below.refl _ _) _⟩

set_option maxHeartbeats 1000000 in
theorem iGoodValue_odd (k : Int) (A : AtomT) (items : List AtomT) (names : List ByteArray) (hk : k = 2 ∨ k = 3) (hz : ¬ zeroA A) (a1 a2 : Option Addr) (l1 c1 l2 c2 : Nat) (w : World) :
    Calls Tryz.prog 53 #[.agg #[.int .i64 k, .int .i64 A.x, .int .i64 A.n, .string A.t, .string A.y, .slice a1 l1 c1, .slice a2 l2 c2]] w
      fun e w' => RetB e (GoodVal ⟨k, A, items, names⟩) ∧ Below w.heap.size w w' := by
  have hg : ¬ GoodVal ⟨k, A, items, names⟩ := by
    rcases hk with rfl | rfl
    · rw [goodVal_2]; exact fun h => hz h.1
    · rw [goodVal_3]; exact fun h => hz h.1
  have HG := hide hg
  have HZ := hide hz
  clear hg hz
  rcases hk with rfl | rfl
  all_goals
    go_enter Tryz.func53, Tryz.ntmps53
    go_wp2_with fail
    all_goals first
      | exact absurd ⟨‹_›, ‹_›, ‹_›, ‹_›⟩ (unhide HZ)
      | (go_ret; exact ⟨retB (b := false) (by simp [unhide HG]), bAl (Below.refl _ _) _⟩)

theorem zeroA_zero : zeroA ⟨0, 0, ⟨#[]⟩, ⟨#[]⟩⟩ := ⟨rfl, rfl, by rw [ByteArray.toList_eq], by rw [ByteArray.toList_eq]⟩

set_option maxHeartbeats 1000000 in
theorem iGoodValue_2 (items : List AtomT) (names : List ByteArray) (hi : ∀ q ∈ items, AtomT.Ok q) (a1 a2 : Option Addr) (l1 c1 l2 c2 : Nat) (w : World) (hl : l1 ≤ maxLen) (hs : SlA w a1 l1 items) (e2 : l2 = names.length) :
    Calls Tryz.prog 53 #[.agg #[.int .i64 2, .int .i64 0, .int .i64 0, .string ⟨#[]⟩, .string ⟨#[]⟩, .slice a1 l1 c1, .slice a2 l2 c2]] w
      fun e w' => RetB e (GoodVal ⟨2, ⟨0, 0, ⟨#[]⟩, ⟨#[]⟩⟩, items, names⟩) ∧ Below w.heap.size w w' := by
  have hg : GoodVal ⟨2, ⟨0, 0, ⟨#[]⟩, ⟨#[]⟩⟩, items, names⟩ ↔ ((items.length ≤ 50 ∧ AllA items items.length ∧ RisA items items.length) ∧ ((l2 : Int) == 0) = true) := by
    rw [len_zero_iff e2, goodVal_2]
    exact ⟨fun h => ⟨⟨h.2.1, h.2.2.1, h.2.2.2.1⟩, h.2.2.2.2⟩, fun h => ⟨zeroA_zero, h.1.1, h.1.2.1, h.1.2.2, h.2⟩⟩
  have hq := hide (fun w (hs : SlA w a1 l1 items) => goodSet_any a1 l1 c1 items w hl hs hi)
  have HG := hide hg
  have HS := hide hs
  clear hg hs hi e2
  go_enter Tryz.func53, Tryz.ntmps53
  go_wp2_with fail
  refine (unhide hq _ ((unhide HS).keep (bAl (Below.refl _ _) _))).mono ?_
  rintro e w1 ⟨⟨b, rfl, hb⟩, hb1⟩
  have HB := hide hb
  clear hb
  obtain ⟨_, _, _, _, _, d5, d6, _⟩ := (ValAt.new w ⟨2, ⟨0, 0, ⟨#[]⟩, ⟨#[]⟩⟩, items, names⟩ (.slice a1 l1 c1) (.slice a2 l2 c2) 43).keep hb1
  cases b
  · go_wp2_with fail
    go_ret
    exact ⟨retB (b := false) (by rw [unhide HG, ← unhide HB]; simp), bTr (bAl (Below.refl _ _) _) hb1⟩
  · go_wp2_with fail
    go_ret
    exact ⟨retB (by rw [unhide HG, ← unhide HB]; simp), bTr (bAl (Below.refl _ _) _) hb1⟩

set_option maxHeartbeats 1000000 in
theorem iGoodValue_3 (items : List AtomT) (names : List ByteArray) (hi : ∀ q ∈ items, AtomT.Ok q) (hn : ∀ q ∈ names, ByteArray.size q ≤ maxLen) (a1 a2 : Option Addr) (l1 c1 l2 c2 : Nat) (w : World) (hl : l1 ≤ maxLen) (hs : SlA w a1 l1 items) (hs2 : SlS w a2 l2 names) :
    Calls Tryz.prog 53 #[.agg #[.int .i64 3, .int .i64 0, .int .i64 0, .string ⟨#[]⟩, .string ⟨#[]⟩, .slice a1 l1 c1, .slice a2 l2 c2]] w
      fun e w' => RetB e (GoodVal ⟨3, ⟨0, 0, ⟨#[]⟩, ⟨#[]⟩⟩, items, names⟩) ∧ Below w.heap.size w w' := by
  have hg : GoodVal ⟨3, ⟨0, 0, ⟨#[]⟩, ⟨#[]⟩⟩, items, names⟩ ↔ (names.length = items.length ∧ (items.length ≤ 50 ∧ AllA items items.length) ∧ AllN names names.length ∧ RisN names names.length) := by
    rw [goodVal_3]
    exact ⟨fun h => ⟨h.2.2.2.1, ⟨h.2.1, h.2.2.1⟩, h.2.2.2.2⟩, fun h => ⟨zeroA_zero, h.2.1.1, h.2.1.2, h.1, h.2.2⟩⟩
  have hq := hide (fun w (hs : SlA w a1 l1 items) (hs2 : SlS w a2 l2 names) => goodRecord_any a1 a2 l1 c1 l2 c2 items names w hl hs hs2 hi hn)
  have HG := hide hg
  have HS := hide hs
  have HS2 := hide hs2
  clear hg hs hi hs2 hn
  go_enter Tryz.func53, Tryz.ntmps53
  go_wp2_with fail
  refine (unhide hq _ ((unhide HS).keep (bAl (Below.refl _ _) _)) ((unhide HS2).keep (bAl (Below.refl _ _) _))).mono ?_
  rintro e w1 ⟨⟨b, rfl, hb⟩, hb1⟩
  have HB := hide hb
  clear hb
  go_wp2_with fail
  go_ret
  exact ⟨retB (by rw [unhide HG]; exact unhide HB), bTr (bAl (Below.refl _ _) _) hb1⟩

theorem sGoodValue_any (v : ValT) (hv : v.Ok) (a1 a2 : Option Addr) (l1 c1 l2 c2 : Nat) (w : World) (hs : SlA w a1 l1 v.items) (hs2 : SlS w a2 l2 v.names) :
    Calls Tryz.prog 41 #[.agg #[.int .i64 v.k, .int .i64 v.a.x, .int .i64 v.a.n, .string v.a.t, .string v.a.y, .slice a1 l1 c1, .slice a2 l2 c2]] w
      fun e w' => RetB e (GoodVal v) ∧ Below w.heap.size w w' := by
  obtain ⟨k, A, items, names⟩ := v
  by_cases h1 : k = 1
  · subst h1; exact sGoodValue_1 A items names hv.a a1 a2 l1 c1 l2 c2 w hs.1 hs2.1
  by_cases h23 : k = 2 ∨ k = 3
  · by_cases hz : zeroA A
    · obtain rfl := zeroA_eq hz
      rcases h23 with rfl | rfl
      · exact sGoodValue_2 items names hv.items a1 a2 l1 c1 l2 c2 w hs hs2.1
      · exact sGoodValue_3 items names hv.items hv.names a1 a2 l1 c1 l2 c2 w hs hs2
    · exact sGoodValue_odd k A items names h23 hz a1 a2 l1 c1 l2 c2 w
  · exact sGoodValue_else ⟨k, A, items, names⟩ a1 a2 l1 c1 l2 c2 w h1 (fun h => h23 (.inl h)) (fun h => h23 (.inr h))

theorem iGoodValue_any (v : ValT) (hv : v.Ok) (a1 a2 : Option Addr) (l1 c1 l2 c2 : Nat) (w : World) (hl : l1 ≤ maxLen) (hs : SlA w a1 l1 v.items) (hs2 : SlS w a2 l2 v.names) :
    Calls Tryz.prog 53 #[.agg #[.int .i64 v.k, .int .i64 v.a.x, .int .i64 v.a.n, .string v.a.t, .string v.a.y, .slice a1 l1 c1, .slice a2 l2 c2]] w
      fun e w' => RetB e (GoodVal v) ∧ Below w.heap.size w w' := by
  obtain ⟨k, A, items, names⟩ := v
  by_cases h1 : k = 1
  · subst h1; exact iGoodValue_1 A items names hv.a a1 a2 l1 c1 l2 c2 w hs.1 hs2.1
  by_cases h23 : k = 2 ∨ k = 3
  · by_cases hz : zeroA A
    · obtain rfl := zeroA_eq hz
      rcases h23 with rfl | rfl
      · exact iGoodValue_2 items names hv.items a1 a2 l1 c1 l2 c2 w hl hs hs2.1
      · exact iGoodValue_3 items names hv.items hv.names a1 a2 l1 c1 l2 c2 w hl hs hs2
    · exact iGoodValue_odd k A items names h23 hz a1 a2 l1 c1 l2 c2 w
  · exact iGoodValue_else ⟨k, A, items, names⟩ a1 a2 l1 c1 l2 c2 w h1 (fun h => h23 (.inl h)) (fun h => h23 (.inr h))
end Go.Proofs.YtdflnjjomljgmaaGreatDoor.V
