/- WValT, WValR, one behind the other. -/
import Derived.Test.YtdflnjjomljgmaaGreatDoorJ16
/- WValT, ported from seat 1a. -/
namespace Go.Proofs.YtdflnjjomljgmaaGreatDoor.V
open Go.RowKit

theorem toList_nil {t : ByteArray} (h : t.toList = []) : t = ⟨#[]⟩ := by
  rw [ByteArray.toList_eq] at h
  apply ByteArray.ext
  exact Array.toList_eq_nil_iff.1 h
theorem zeroA_eq {A : AtomT} (h : zeroA A) : A = ⟨0, 0, ⟨#[]⟩, ⟨#[]⟩⟩ := by
  obtain ⟨x, n, t, y⟩ := A
  obtain ⟨h1, h2, h3, h4⟩ := h
  simp only at h1 h2 h3 h4
  rw [h1, h2, toList_nil h3, toList_nil h4]

theorem AtomT.isGood (a : AtomT) (h : a.Ok) (w : World) : Calls Tryz.prog 60 #[.agg #[.int .i64 a.x, .int .i64 a.n, .string a.t, .string a.y]] w fun e w' => e = .returned (.bool a.good) ∧ Below w.heap.size w w' :=
  sGoodAtom_any a.x a.n a.t a.y w h.n9 h.t9 h.y9
theorem AtomT.isCmp (a b : AtomT) (h : a.Ok) (w : World) : Calls Tryz.prog 63 #[.agg #[.int .i64 a.x, .int .i64 a.n, .string a.t, .string a.y], .agg #[.int .i64 b.x, .int .i64 b.n, .string b.t, .string b.y]] w fun e w' => e = .returned (.int .i64 (a.cmp b)) ∧ Below w.heap.size w w' :=
  l1Cmp_any a.x a.n a.t a.y b.x b.n b.t b.y w h.t9 h.y9

set_option maxHeartbeats 1000000 in
theorem sGoodValue_2 (items : List AtomT) (names : List ByteArray) (hi : ∀ q ∈ items, AtomT.Ok q) (a1 a2 : Option Addr) (l1 c1 l2 c2 : Nat) (w : World) (hs : SlA w a1 l1 items) (e2 : l2 = names.length) :
    Calls Tryz.prog 41 #[.agg #[.int .i64 2, .int .i64 0, .int .i64 0, .string ⟨#[]⟩, .string ⟨#[]⟩, .slice a1 l1 c1, .slice a2 l2 c2]] w
      fun e w' => RetB e (GoodVal ⟨2, ⟨0, 0, ⟨#[]⟩, ⟨#[]⟩⟩, items, names⟩) ∧ Below w.heap.size w w' := by
  have hg := goodVal_2 ⟨0, 0, ⟨#[]⟩, ⟨#[]⟩⟩ items names
  have HG := hide hg
  have HS := hide hs
  have E2 := hide e2
  clear hg hs e2
  by_cases h50 : 50 < l1
  · have d5 : decide (50 < (l1 : Int)) = true := by simp; omega
    go_enter Tryz.func41, Tryz.ntmps41
    go_wp2_with fail
    go_ret
    exact ⟨retB (b := false) (by rw [unhide HG, ← (unhide HS).1]; simp; omega), bAl (Below.refl _ _) _⟩
  have d5 : decide (50 < (l1 : Int)) = false := by simp; omega
  obtain ⟨W0, hW0⟩ : ∃ W, W = w.alloc (.cells #[.int .i64 2, .int .i64 0, .int .i64 0, .string ⟨#[]⟩, .string ⟨#[]⟩, .slice a1 l1 c1, .slice a2 l2 c2] 43) := ⟨_, rfl⟩
  have HW := hide hW0
  have qv : ValAt W0 w.heap.size ⟨2, ⟨0, 0, ⟨#[]⟩, ⟨#[]⟩⟩, items, names⟩ (.slice a1 l1 c1) (.slice a2 l2 c2) := by rw [hW0]; exact ValAt.new w ⟨2, ⟨0, 0, ⟨#[]⟩, ⟨#[]⟩⟩, items, names⟩ _ _ _
  have b0 : Below w.heap.size w W0 := by rw [hW0]; exact bAl (Below.refl _ _) _
  have QV := hide qv
  have B0 := hide b0
  clear hW0 qv b0
  go_enter Tryz.func41, Tryz.ntmps41
  go_wp2_with fail
  rw [← unhide HW]
  clear HW
  go_loopw [42] (fun i w' => ∃ k : Nat, k ≤ l1 ∧ i = .int .i64 k ∧ Hid (Below W0.heap.size W0 w') ∧ Hid (AllA items k) ∧ Hid (RisA items k)) (fun i _ => l1 - (intOf i).toNat)
  case atStart => exact ⟨0, Nat.zero_le _, rfl, hide (Below.refl _ _), hide (fun i _ h => absurd h (Nat.not_lt_zero _)), hide (fun i _ _ h => absurd h (Nat.not_lt_zero _))⟩
  case round =>
    obtain ⟨k, hk, rfl, hb, hall, hris⟩ := hrel
    by_cases hlt : k < l1
    · have hk' : k < items.length := by rw [← (unhide HS).1]; exact hlt
      obtain ⟨b, off, rfl, hrow⟩ := ((unhide HS).keep (bTr (unhide B0) (unhide hb))).at hlt
      have pk := hrow.c k hk'
      have zk := hrow.z
      have hok := hi _ (List.getElem_mem hk')
      have qk := hide (fun w => AtomT.isGood items[k] hok w)
      obtain ⟨v0, _, _, _, _, v5, _, zv⟩ := (unhide QV).keep (unhide hb)
      have stepA := hide (fun g => (unhide hall).step hk' g)
      have noA : Hid (items[k].good = false → ¬ AllA items items.length) := hide (fun g h => by have := h k hk' hk'; rw [g] at this; cases this)
      obtain ⟨W, hW⟩ : ∃ W, W = wr.alloc (.cells #[.int .i64 items[k].x, .int .i64 items[k].n, .string items[k].t, .string items[k].y] 40) := ⟨_, rfl⟩
      have bW : Below wr.heap.size wr W := by rw [hW]; exact bAl (Below.refl _ _) _
      have qW : AtomAt W wr.heap.size items[k].x items[k].n items[k].t items[k].y := by rw [hW]; exact AtomAt.new wr _ _ _ _ _
      have HW := hide hW
      clear hW
      have ne : Nonempty (Kept W) := ⟨⟨W, Below.refl _ _⟩⟩
      have x0 := fun q : Kept W => (qW.kept q).c0
      have x1 := fun q : Kept W => (qW.kept q).c1
      have x2 := fun q : Kept W => (qW.kept q).c2
      have x3 := fun q : Kept W => (qW.kept q).c3
      have y0 := kept_cell (W := W) (p := ⟨w.heap.size, 0, none⟩) (Nat.lt_of_lt_of_le zv bW.size) (cellB bW zv v0)
      have y5 := kept_cell (W := W) (p := ⟨w.heap.size, 5, none⟩) (Nat.lt_of_lt_of_le zv bW.size) (cellB bW zv v5)
      have bk := hide (bTr (unhide hb) bW)
      rcases k with _ | j
      · have dj : decide ((0 : Int) < 0) = false := by simp
        have stepR := hide ((unhide hris).step hk' (fun h => absurd h (Nat.lt_irrefl 0)))
        obtain ⟨c0, c1, c2, c3⟩ := pk
        simp only [Nat.zero_mul, Nat.add_zero] at c0 c1 c2 c3
        clear hrow hok v0 v5 qW
        generalize items[0] = P at *
        cases g : P.good
        · rw [g] at qk
          replace noA := hide (unhide noA g)
          clear g
          go_wp2_with fail
          rw [← unhide HW]
          clear HW c0 c1 c2 c3
          refine wp_region_kept (by kernel_rfl) (by kernel_rfl) ?_
          repeat (first
            | go_big_quiet_step ((go_at_call 60; exact kept_call (unhide qk _)))
            | quiet_step ((go_at_call 60; exact kept_call (unhide qk _))))
          refine wpQuiet_nil ?_
          rintro _ ⟨q, rfl⟩
          go_wp2_with fail
          go_ret
          exact ⟨retB (b := false) (by rw [unhide HG]; exact ⟨fun h => (by cases h), fun h => absurd h.2.2.1 (unhide noA)⟩), bTr (unhide B0) (bTr (unhide bk) q.h)⟩
        · rw [g] at qk
          replace stepA := hide (unhide stepA g)
          clear g
          go_wp2_with fail
          rw [← unhide HW]
          clear HW c0 c1 c2 c3
          refine wp_region_kept (by kernel_rfl) (by kernel_rfl) ?_
          repeat (first
            | go_big_quiet_step ((go_at_call 60; exact kept_call (unhide qk _)))
            | quiet_step ((go_at_call 60; exact kept_call (unhide qk _))))
          refine wpQuiet_nil ?_
          rintro _ ⟨q, rfl⟩
          go_wp2_with fail
          exact ⟨⟨1, by omega, by go_num, hide (bTr (unhide bk) q.h), stepA, stepR⟩, by simp [intOf]; omega⟩
      · have pj := (hrow.c j (by omega)).keep zk bW
        have zj : b < W.heap.size := Nat.lt_of_lt_of_le zk bW.size
        have t0 := kept_cell zj pj.c0
        have t1 := kept_cell zj pj.c1
        have t2 := kept_cell zj pj.c2
        have t3 := kept_cell zj pj.c3
        have hokj := hi _ (List.getElem_mem (show j < items.length by omega))
        have qc := hide (fun w => AtomT.isCmp items[j] items[j + 1] hokj w)
        obtain ⟨c0, c1, c2, c3⟩ := pk
        have dj : decide (0 < (j : Int) + 1) = true := by simp; try omega
        have stepR := hide (fun g : items[j].cmp items[j + 1] < 0 => (unhide hris).step hk' (fun _ => g))
        have noR := hide (fun (g : ¬ items[j].cmp items[j + 1] < 0) (h : RisA items items.length) => g (h (j + 1) hk' (by omega) hk'))
        have ej : IntKind.i64.wrap ((j : Int) + 1 - 1) = (j : Int) := by rw [IntKind.wrap_i64]; omega
        have i0 : (0 : Int) ≤ (j : Int) := by omega
        have i1 : (j : Int) < (l1 : Int) := by omega
        clear hrow pj hokj hok v0 v5 qW
        generalize items[j + 1] = P at *
        generalize items[j] = Q at *
        cases g : P.good
        · rw [g] at qk
          replace noA := hide (unhide noA g)
          clear g
          go_wp2_with fail
          rw [← unhide HW]
          clear HW c0 c1 c2 c3
          refine wp_region_kept (by kernel_rfl) (by kernel_rfl) ?_
          repeat (first
            | go_big_quiet_step (first | (go_at_call 60; exact kept_call (unhide qk _)) | (go_at_call 63; exact kept_call (unhide qc _)))
            | quiet_step (first | (go_at_call 60; exact kept_call (unhide qk _)) | (go_at_call 63; exact kept_call (unhide qc _))))
          refine wpQuiet_nil ?_
          rintro _ ⟨q, rfl⟩
          go_wp2_with fail
          go_ret
          exact ⟨retB (b := false) (by rw [unhide HG]; exact ⟨fun h => (by cases h), fun h => absurd h.2.2.1 (unhide noA)⟩), bTr (unhide B0) (bTr (unhide bk) q.h)⟩
        · rw [g] at qk
          replace stepA := hide (unhide stepA g)
          clear g
          by_cases hc : Q.cmp P < 0
          · have dc : decide (0 ≤ Q.cmp P) = false := by simp; omega
            replace stepR := hide (unhide stepR hc)
            clear hc
            go_wp2_with fail
            rw [← unhide HW]
            clear HW c0 c1 c2 c3
            refine wp_region_kept (by kernel_rfl) (by kernel_rfl) ?_
            repeat (first
              | go_big_quiet_step (first | (go_at_call 60; exact kept_call (unhide qk _)) | (go_at_call 63; exact kept_call (unhide qc _)))
              | quiet_step (first | (go_at_call 60; exact kept_call (unhide qk _)) | (go_at_call 63; exact kept_call (unhide qc _))))
            refine wpQuiet_nil ?_
            rintro _ ⟨q, rfl⟩
            go_wp2_with fail
            exact ⟨⟨j + 1 + 1, by omega, by go_num, hide (bTr (unhide bk) q.h), stepA, stepR⟩, by simp [intOf]; omega⟩
          · have dc : decide (0 ≤ Q.cmp P) = true := by simp; omega
            replace noR := hide (unhide noR hc)
            clear hc
            go_wp2_with fail
            rw [← unhide HW]
            clear HW c0 c1 c2 c3
            refine wp_region_kept (by kernel_rfl) (by kernel_rfl) ?_
            repeat (first
              | go_big_quiet_step (first | (go_at_call 60; exact kept_call (unhide qk _)) | (go_at_call 63; exact kept_call (unhide qc _)))
              | quiet_step (first | (go_at_call 60; exact kept_call (unhide qk _)) | (go_at_call 63; exact kept_call (unhide qc _))))
            refine wpQuiet_nil ?_
            rintro _ ⟨q, rfl⟩
            go_wp2_with fail
            go_ret
            exact ⟨retB (b := false) (by rw [unhide HG]; exact ⟨fun h => (by cases h), fun h => absurd h.2.2.2.1 (unhide noR)⟩), bTr (unhide B0) (bTr (unhide bk) q.h)⟩
    · have e : k = items.length := by rw [← (unhide HS).1]; omega
      obtain ⟨v0, _, _, _, _, _, v6, _⟩ := (unhide QV).keep (unhide hb)
      have hfin : Hid (GoodVal ⟨2, ⟨0, 0, ⟨#[]⟩, ⟨#[]⟩⟩, items, names⟩ ↔ ((l2 : Int) == 0) = true) := hide (by
        rw [unhide HG, len_zero_iff (unhide E2)]
        have hA := unhide hall
        have hR := unhide hris
        rw [e] at hA hR
        have hl : items.length ≤ 50 := by rw [← e]; omega
        exact ⟨fun h => h.2.2.2.2, fun h => ⟨⟨rfl, rfl, by rw [ByteArray.toList_eq], by rw [ByteArray.toList_eq]⟩, hl, hA, hR, h⟩⟩)
      clear e
      go_wp2_with fail
      go_ret
      exact ⟨retB (unhide hfin).symm, bTr (unhide B0) (unhide hb)⟩
end Go.Proofs.YtdflnjjomljgmaaGreatDoor.V
/- WValR, ported from seat 1a. -/
namespace Go.Proofs.YtdflnjjomljgmaaGreatDoor.V
open Go.RowKit

set_option maxHeartbeats 1000000 in
theorem sGoodValue_odd (k : Int) (A : AtomT) (items : List AtomT) (names : List ByteArray) (hk : k = 2 ∨ k = 3) (hz : ¬ zeroA A) (a1 a2 : Option Addr) (l1 c1 l2 c2 : Nat) (w : World) :
    Calls Tryz.prog 41 #[.agg #[.int .i64 k, .int .i64 A.x, .int .i64 A.n, .string A.t, .string A.y, .slice a1 l1 c1, .slice a2 l2 c2]] w
      fun e w' => RetB e (GoodVal ⟨k, A, items, names⟩) ∧ Below w.heap.size w w' := by
  have hg : ¬ GoodVal ⟨k, A, items, names⟩ := by
    rcases hk with rfl | rfl
    · rw [goodVal_2]; exact fun h => hz h.1
    · rw [goodVal_3]; exact fun h => hz h.1
  have HG := hide hg
  have HZ := hide hz
  clear hg hz
  rcases hk with rfl | rfl
  all_goals
    go_enter Tryz.func41, Tryz.ntmps41
    go_wp2_with fail
    all_goals first
      | exact absurd ⟨‹_›, ‹_›, ‹_›, ‹_›⟩ (unhide HZ)
      | (go_ret; exact ⟨retB (b := false) (by simp [unhide HG]), bAl (Below.refl _ _) _⟩)

set_option maxHeartbeats 1000000 in
theorem sGoodValue_3 (items : List AtomT) (names : List ByteArray) (hi : ∀ q ∈ items, AtomT.Ok q) (hn : ∀ q ∈ names, ByteArray.size q ≤ maxLen) (a1 a2 : Option Addr) (l1 c1 l2 c2 : Nat) (w : World) (hs : SlA w a1 l1 items) (hs2 : SlS w a2 l2 names) :
    Calls Tryz.prog 41 #[.agg #[.int .i64 3, .int .i64 0, .int .i64 0, .string ⟨#[]⟩, .string ⟨#[]⟩, .slice a1 l1 c1, .slice a2 l2 c2]] w
      fun e w' => RetB e (GoodVal ⟨3, ⟨0, 0, ⟨#[]⟩, ⟨#[]⟩⟩, items, names⟩) ∧ Below w.heap.size w w' := by
  have hg := goodVal_3 ⟨0, 0, ⟨#[]⟩, ⟨#[]⟩⟩ items names
  have HG := hide hg
  have HS := hide hs
  have HS2 := hide hs2
  clear hg hs hs2
  by_cases h50 : 50 < l1
  · have d5 : decide (50 < (l1 : Int)) = true := by simp; omega
    go_enter Tryz.func41, Tryz.ntmps41
    go_wp2_with fail
    go_ret
    exact ⟨retB (b := false) (by rw [unhide HG, ← (unhide HS).1]; simp; omega), bAl (Below.refl _ _) _⟩
  have d5 : decide (50 < (l1 : Int)) = false := by simp; omega
  obtain ⟨W0, hW0⟩ : ∃ W, W = w.alloc (.cells #[.int .i64 3, .int .i64 0, .int .i64 0, .string ⟨#[]⟩, .string ⟨#[]⟩, .slice a1 l1 c1, .slice a2 l2 c2] 43) := ⟨_, rfl⟩
  have HW := hide hW0
  have qv : ValAt W0 w.heap.size ⟨3, ⟨0, 0, ⟨#[]⟩, ⟨#[]⟩⟩, items, names⟩ (.slice a1 l1 c1) (.slice a2 l2 c2) := by rw [hW0]; exact ValAt.new w ⟨3, ⟨0, 0, ⟨#[]⟩, ⟨#[]⟩⟩, items, names⟩ _ _ _
  have b0 : Below w.heap.size w W0 := by rw [hW0]; exact bAl (Below.refl _ _) _
  have QV := hide qv
  have B0 := hide b0
  clear hW0 qv b0
  go_enter Tryz.func41, Tryz.ntmps41
  go_wp2_with fail
  rw [← unhide HW]
  clear HW
  go_loopw [42] (fun i w' => ∃ k : Nat, k ≤ l1 ∧ i = .int .i64 k ∧ Hid (Below W0.heap.size W0 w') ∧ Hid (AllA items k)) (fun i _ => l1 - (intOf i).toNat)
  case atStart => exact ⟨0, Nat.zero_le _, rfl, hide (Below.refl _ _), hide (fun i _ h => absurd h (Nat.not_lt_zero _))⟩
  case round =>
    obtain ⟨k, hk, rfl, hb, hall⟩ := hrel
    by_cases hlt : k < l1
    · have hk' : k < items.length := by rw [← (unhide HS).1]; exact hlt
      obtain ⟨b, off, rfl, hrow⟩ := ((unhide HS).keep (bTr (unhide B0) (unhide hb))).at hlt
      have pk := hrow.c k hk'
      have hok := hi _ (List.getElem_mem hk')
      have qk := hide (fun w => AtomT.isGood items[k] hok w)
      obtain ⟨v0, _, _, _, _, _, _, zv⟩ := (unhide QV).keep (unhide hb)
      have stepA := hide (fun g => (unhide hall).step hk' g)
      have noA : Hid (items[k].good = false → ¬ AllA items items.length) := hide (fun g h => by have := h k hk' hk'; rw [g] at this; cases this)
      obtain ⟨W, hW⟩ : ∃ W, W = wr.alloc (.cells #[.int .i64 items[k].x, .int .i64 items[k].n, .string items[k].t, .string items[k].y] 40) := ⟨_, rfl⟩
      have bW : Below wr.heap.size wr W := by rw [hW]; exact bAl (Below.refl _ _) _
      have qW : AtomAt W wr.heap.size items[k].x items[k].n items[k].t items[k].y := by rw [hW]; exact AtomAt.new wr _ _ _ _ _
      have HW := hide hW
      clear hW
      have ne : Nonempty (Kept W) := ⟨⟨W, Below.refl _ _⟩⟩
      have x0 := fun q : Kept W => (qW.kept q).c0
      have x1 := fun q : Kept W => (qW.kept q).c1
      have x2 := fun q : Kept W => (qW.kept q).c2
      have x3 := fun q : Kept W => (qW.kept q).c3
      have y0 := kept_cell (W := W) (p := ⟨w.heap.size, 0, none⟩) (Nat.lt_of_lt_of_le zv bW.size) (cellB bW zv v0)
      have bk := hide (bTr (unhide hb) bW)
      obtain ⟨c0, c1, c2, c3⟩ := pk
      clear hrow hok v0 qW
      generalize items[k] = P at *
      cases g : P.good
      · rw [g] at qk
        replace noA := hide (unhide noA g)
        clear g
        go_wp2_with fail
        rw [← unhide HW]
        clear HW c0 c1 c2 c3
        refine wp_region_kept (by kernel_rfl) (by kernel_rfl) ?_
        repeat (first
          | go_big_quiet_step ((go_at_call 60; exact kept_call (unhide qk _)))
          | quiet_step ((go_at_call 60; exact kept_call (unhide qk _))))
        refine wpQuiet_nil ?_
        rintro _ ⟨q, rfl⟩
        go_wp2_with fail
        go_ret
        exact ⟨retB (b := false) (by rw [unhide HG]; exact ⟨fun h => (by cases h), fun h => absurd h.2.2.1 (unhide noA)⟩), bTr (unhide B0) (bTr (unhide bk) q.h)⟩
      · rw [g] at qk
        replace stepA := hide (unhide stepA g)
        clear g
        go_wp2_with fail
        rw [← unhide HW]
        clear HW c0 c1 c2 c3
        refine wp_region_kept (by kernel_rfl) (by kernel_rfl) ?_
        repeat (first
          | go_big_quiet_step ((go_at_call 60; exact kept_call (unhide qk _)))
          | quiet_step ((go_at_call 60; exact kept_call (unhide qk _))))
        refine wpQuiet_nil ?_
        rintro _ ⟨q, rfl⟩
        go_wp2_with fail
        exact ⟨⟨k + 1, by omega, by go_num, hide (bTr (unhide bk) q.h), stepA⟩, by simp [intOf]; omega⟩
    · have e : k = items.length := by rw [← (unhide HS).1]; omega
      have hA : Hid (AllA items items.length) := hide (by rw [← e]; exact unhide hall)
      clear e hall
      have bb := hide (bTr (unhide B0) (unhide hb))
      by_cases hne : l2 = l1
      · have hfin : Hid (GoodVal ⟨3, ⟨0, 0, ⟨#[]⟩, ⟨#[]⟩⟩, items, names⟩ ↔ (AllN names names.length ∧ RisN names names.length)) := hide (by
          rw [unhide HG]
          have hl : items.length ≤ 50 := by rw [← (unhide HS).1]; omega
          have hl2 : names.length = items.length := by rw [← (unhide HS).1, ← (unhide HS2).1]; exact hne
          exact ⟨fun h => h.2.2.2.2, fun h => ⟨⟨rfl, rfl, by rw [ByteArray.toList_eq], by rw [ByteArray.toList_eq]⟩, hl, unhide hA, hl2, h⟩⟩)
        obtain ⟨v0, _, _, _, _, v5, v6, _⟩ := (unhide QV).keep (unhide hb)
        have dne : ((l2 : Int) != (l1 : Int)) = false := by rw [hne]; simp
        have hl2 : l2 ≤ 50 := by omega
        clear hne
        go_wp2_with fail
        clear v0 v5 v6
        obtain ⟨wo, rfl⟩ : ∃ wo : World, wo = wr := ⟨_, rfl⟩
        go_loopw [88] (fun i w' => ∃ k : Nat, k ≤ l2 ∧ i = .int .i64 k ∧ Hid (Below W0.heap.size W0 w') ∧ Hid (AllN names k) ∧ Hid (RisN names k)) (fun i _ => l2 - (intOf i).toNat)
        case atStart => exact ⟨0, Nat.zero_le _, rfl, hb, hide (fun i _ h => absurd h (Nat.not_lt_zero _)), hide (fun i _ _ h => absurd h (Nat.not_lt_zero _))⟩
        case round =>
          clear hk hlt hb
          obtain ⟨k, hk, rfl, hb, hall, hris⟩ := hrel
          by_cases hlt : k < l2
          · have hk' : k < names.length := by rw [← (unhide HS2).1]; exact hlt
            obtain ⟨b, off, rfl, hrow⟩ := ((unhide HS2).keep (bTr (unhide B0) (unhide hb))).at hlt
            have c0 := hrow.c k hk'
            have qk := hide (fun w => sGoodName_any names[k] (hn _ (List.getElem_mem hk')) w)
            obtain ⟨v0, _, _, _, _, v5, v6, zv⟩ := (unhide QV).keep (unhide hb)
            have stepA := hide (fun g => (unhide hall).step hk' g)
            have noA : Hid (goodName names[k] = false → ¬ AllN names names.length) := hide (fun g h => by have := h k hk' hk'; rw [g] at this; cases this)
            rcases k with _ | j
            · have stepR := hide ((unhide hris).step hk' (fun h => absurd h (Nat.lt_irrefl 0)))
              rw [Nat.add_zero] at c0
              clear hrow
              generalize names[0] = P at *
              cases g : goodName P
              · rw [g] at qk
                replace noA := hide (unhide noA g)
                clear g
                go_wp2_with (go_at_call 59; refine (unhide qk _).mono ?_; rintro e w' ⟨rfl, rfl⟩)
                go_ret
                exact ⟨retB (b := false) (by rw [unhide hfin]; exact ⟨fun h => (by cases h), fun h => absurd h.1 (unhide noA)⟩), bTr (unhide B0) (unhide hb)⟩
              · rw [g] at qk
                replace stepA := hide (unhide stepA g)
                clear g
                go_wp2_with (go_at_call 59; refine (unhide qk _).mono ?_; rintro e w' ⟨rfl, rfl⟩)
                exact ⟨⟨1, by omega, by go_num, hb, stepA, stepR⟩, by simp [intOf]; omega⟩
            · have pj := hrow.c j (by omega)
              have qc := hide (fun w => cmpText_any names[j] names[j + 1] w (hn _ (List.getElem_mem (show j < names.length by omega))))
              have stepR := hide (fun g : cmpT names[j].data.toList names[j + 1].data.toList < 0 => (unhide hris).step hk' (fun _ => g))
              have noR := hide (fun (g : ¬ cmpT names[j].data.toList names[j + 1].data.toList < 0) (h : RisN names names.length) => g (h (j + 1) hk' (by omega) hk'))
              have dj : decide (0 < (j : Int) + 1) = true := by simp; try omega
              clear hrow
              generalize names[j + 1] = P at *
              generalize names[j] = Q at *
              cases g : goodName P
              · rw [g] at qk
                replace noA := hide (unhide noA g)
                clear g
                go_wp2_with (go_at_call 59; refine (unhide qk _).mono ?_; rintro e w' ⟨rfl, rfl⟩)
                go_ret
                exact ⟨retB (b := false) (by rw [unhide hfin]; exact ⟨fun h => (by cases h), fun h => absurd h.1 (unhide noA)⟩), bTr (unhide B0) (unhide hb)⟩
              · rw [g] at qk
                replace stepA := hide (unhide stepA g)
                clear g
                by_cases hc : cmpT Q.data.toList P.data.toList < 0
                · have dc : decide (0 ≤ cmpT Q.data.toList P.data.toList) = false := by simp; omega
                  replace stepR := hide (unhide stepR hc)
                  clear hc
                  go_wp2_with (first | (go_at_call 59; refine (unhide qk _).mono ?_; rintro e w' ⟨rfl, rfl⟩) | (go_at_call 64; refine (unhide qc _).mono ?_; rintro e w5 ⟨rfl, hb5⟩))
                  exact ⟨⟨j + 1 + 1, by omega, by go_num, hide (bTr (unhide hb) hb5), stepA, stepR⟩, by simp [intOf]; omega⟩
                · have dc : decide (0 ≤ cmpT Q.data.toList P.data.toList) = true := by simp; omega
                  replace noR := hide (unhide noR hc)
                  clear hc
                  go_wp2_with (first | (go_at_call 59; refine (unhide qk _).mono ?_; rintro e w' ⟨rfl, rfl⟩) | (go_at_call 64; refine (unhide qc _).mono ?_; rintro e w5 ⟨rfl, hb5⟩))
                  go_ret
                  exact ⟨retB (b := false) (by rw [unhide hfin]; exact ⟨fun h => (by cases h), fun h => absurd h.2 (unhide noR)⟩), bTr (unhide B0) (bTr (unhide hb) hb5)⟩
          · have e : k = names.length := by rw [← (unhide HS2).1]; omega
            have hf : Hid (GoodVal ⟨3, ⟨0, 0, ⟨#[]⟩, ⟨#[]⟩⟩, items, names⟩) := hide (by
              rw [unhide hfin, ← e]; exact ⟨unhide hall, unhide hris⟩)
            clear e
            go_wp2_with fail
            go_ret
            exact ⟨retB (b := true) (by simp [unhide hf]), bTr (unhide B0) (unhide hb)⟩
      · have dne : ((l2 : Int) != (l1 : Int)) = true := by simp; omega
        obtain ⟨v0, _, _, _, _, v5, v6, _⟩ := (unhide QV).keep (unhide hb)
        have hfin : Hid (¬ GoodVal ⟨3, ⟨0, 0, ⟨#[]⟩, ⟨#[]⟩⟩, items, names⟩) := hide (by
          rw [unhide HG, ← (unhide HS).1, ← (unhide HS2).1]; intro h; exact hne h.2.2.2.1)
        clear hne
        go_wp2_with fail
        go_ret
        exact ⟨retB (b := false) (by simp [unhide hfin]), unhide bb⟩
end Go.Proofs.YtdflnjjomljgmaaGreatDoor.V
