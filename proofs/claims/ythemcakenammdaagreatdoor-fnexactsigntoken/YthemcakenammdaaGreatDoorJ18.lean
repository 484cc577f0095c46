/- WValR, WCmpA, one behind the other. -/
import Derived.Test.YthemcakenammdaaGreatDoorJ17
import Derived.Test.YthemcakenammdaaGreatDoorJ16
import Derived.Test.YthemcakenammdaaGreatDoorQAtm
import Derived.Deep.RegionHeld3
import Derived.Deep.DeepCutAuto
/- WValR, ported from seat 1a. -/
namespace Go.Proofs.YthemcakenammdaaGreatDoor.V
open Go.RowKit

set_option maxHeartbeats 1000000 in
theorem sGoodValue_odd (k : Int) (A : AtomT) (items : List AtomT) (names : List ByteArray) (hk : k = 2 ∨ k = 3) (hz : ¬ zeroA A) (a1 a2 : Option Addr) (l1 c1 l2 c2 : Nat) (w : World) :
    Calls Tryz.prog 37 #[.agg #[.int .i64 k, .int .i64 A.x, .int .i64 A.n, .string A.t, .string A.y, .slice a1 l1 c1, .slice a2 l2 c2]] w
      fun e w' => RetB e (GoodVal ⟨k, A, items, names⟩) ∧ Below w.heap.size w w' := by
  have hg : ¬ GoodVal ⟨k, A, items, names⟩ := by
    rcases hk with rfl | rfl
    · rw [goodVal_2]; exact fun h => hz h.1
    · rw [goodVal_3]; exact fun h => hz h.1
  have HG := hide hg
  have HZ := hide hz
  clear hg hz
  rcases hk with rfl | rfl
  all_goals
    go_enter Tryz.func37, Tryz.ntmps37
    go_wp2_with fail
    all_goals first
      | exact absurd ⟨‹_›, ‹_›, ‹_›, ‹_›⟩ (unhide HZ)
      | (go_ret; exact ⟨retB (b := false) (by simp [unhide HG]), bAl (Below.refl _ _) _⟩)

set_option maxHeartbeats 1000000 in
theorem sGoodValue_3 (items : List AtomT) (names : List ByteArray) (hi : ∀ q ∈ items, AtomT.Ok q) (hn : ∀ q ∈ names, ByteArray.size q ≤ maxLen) (a1 a2 : Option Addr) (l1 c1 l2 c2 : Nat) (w : World) (hs : SlA w a1 l1 items) (hs2 : SlS w a2 l2 names) :
    Calls Tryz.prog 37 #[.agg #[.int .i64 3, .int .i64 0, .int .i64 0, .string ⟨#[]⟩, .string ⟨#[]⟩, .slice a1 l1 c1, .slice a2 l2 c2]] w
      fun e w' => RetB e (GoodVal ⟨3, ⟨0, 0, ⟨#[]⟩, ⟨#[]⟩⟩, items, names⟩) ∧ Below w.heap.size w w' := by
  have hg := goodVal_3 ⟨0, 0, ⟨#[]⟩, ⟨#[]⟩⟩ items names
  have HG := hide hg
  have HS := hide hs
  have HS2 := hide hs2
  clear hg hs hs2
  by_cases h50 : 50 < l1
  · have d5 : decide (50 < (l1 : Int)) = true := by simp; omega
    go_enter Tryz.func37, Tryz.ntmps37
    go_wp2_with fail
    go_ret
    exact ⟨retB (b := false) (by rw [unhide HG, ← (unhide HS).1]; simp; omega), bAl (Below.refl _ _) _⟩
  have d5 : decide (50 < (l1 : Int)) = false := by simp; omega
  obtain ⟨W0, hW0⟩ : ∃ W, W = w.alloc (.cells #[.int .i64 3, .int .i64 0, .int .i64 0, .string ⟨#[]⟩, .string ⟨#[]⟩, .slice a1 l1 c1, .slice a2 l2 c2] 33) := ⟨_, rfl⟩
  have HW := hide hW0
  have qv : ValAt W0 w.heap.size ⟨3, ⟨0, 0, ⟨#[]⟩, ⟨#[]⟩⟩, items, names⟩ (.slice a1 l1 c1) (.slice a2 l2 c2) := by rw [hW0]; exact ValAt.new w ⟨3, ⟨0, 0, ⟨#[]⟩, ⟨#[]⟩⟩, items, names⟩ _ _ _
  have b0 : Below w.heap.size w W0 := by rw [hW0]; exact bAl (Below.refl _ _) _
  have QV := hide qv
  have B0 := hide b0
  clear hW0 qv b0
  go_enter Tryz.func37, Tryz.ntmps37
  go_wp2_with fail
  rw [← unhide HW]
  clear HW
  go_loopw [42] (fun i w' => ∃ k : Nat, k ≤ l1 ∧ i = .int .i64 k ∧ Hid (Below W0.heap.size W0 w') ∧ Hid (AllA items k)) (fun i _ => l1 - (intOf i).toNat)
  case atStart => exact ⟨0, Nat.zero_le _, rfl, hide (Below.refl _ _), hide (fun i _ h => absurd h (Nat.not_lt_zero _))⟩
  case round =>
    obtain ⟨k, hk, rfl, hb, hall⟩ := hrel
    by_cases hlt : k < l1
    · have hk' : k < items.length := by rw [← (unhide HS).1]; exact hlt
      obtain ⟨b, off, rfl, hrow⟩ := ((unhide HS).keep (bTr (unhide B0) (unhide hb))).at hlt
      have pk := hrow.c k hk'
      have hok := hi _ (List.getElem_mem hk')
      have qk := hide (fun w => AtomT.isGood items[k] hok w)
      obtain ⟨v0, _, _, _, _, _, _, zv⟩ := (unhide QV).keep (unhide hb)
      have stepA := hide (fun g => (unhide hall).step hk' g)
      have noA : Hid (items[k].good = false → ¬ AllA items items.length) := hide (fun g h => by have := h k hk' hk'; rw [g] at this; cases this)
      obtain ⟨W, hW⟩ : ∃ W, W = wr.alloc (.cells #[.int .i64 items[k].x, .int .i64 items[k].n, .string items[k].t, .string items[k].y] 30) := ⟨_, rfl⟩
      have bW : Below wr.heap.size wr W := by rw [hW]; exact bAl (Below.refl _ _) _
      have qW : AtomAt W wr.heap.size items[k].x items[k].n items[k].t items[k].y := by rw [hW]; exact AtomAt.new wr _ _ _ _ _
      have HW := hide hW
      clear hW
      have ne : Nonempty (Kept W) := ⟨⟨W, Below.refl _ _⟩⟩
      have x0 := fun q : Kept W => (qW.kept q).c0
      have x1 := fun q : Kept W => (qW.kept q).c1
      have x2 := fun q : Kept W => (qW.kept q).c2
      have x3 := fun q : Kept W => (qW.kept q).c3
      have y0 := kept_cell (W := W) (p := ⟨w.heap.size, 0, none⟩) (Nat.lt_of_lt_of_le zv bW.size) (cellB bW zv v0)
      have bk := hide (bTr (unhide hb) bW)
      obtain ⟨c0, c1, c2, c3⟩ := pk
      clear hrow hok v0 qW
      generalize items[k] = P at *
      cases g : P.good
      · rw [g] at qk
        replace noA := hide (unhide noA g)
        clear g
        go_wp2_with fail
        rw [← unhide HW]
        clear HW c0 c1 c2 c3
        refine wp_region_kept (by kernel_rfl) (by kernel_rfl) ?_
        repeat (first
          | go_big_quiet_step ((go_at_call 56; exact kept_call (unhide qk _)))
          | quiet_step ((go_at_call 56; exact kept_call (unhide qk _))))
        refine wpQuiet_nil ?_
        rintro _ ⟨q, rfl⟩
        go_wp2_with fail
        go_ret
        exact ⟨retB (b := false) (by rw [unhide HG]; exact ⟨fun h => (by cases h), fun h => absurd h.2.2.1 (unhide noA)⟩), bTr (unhide B0) (bTr (unhide bk) q.h)⟩
      · rw [g] at qk
        replace stepA := hide (unhide stepA g)
        clear g
        go_wp2_with fail
        rw [← unhide HW]
        clear HW c0 c1 c2 c3
        refine wp_region_kept (by kernel_rfl) (by kernel_rfl) ?_
        repeat (first
          | go_big_quiet_step ((go_at_call 56; exact kept_call (unhide qk _)))
          | quiet_step ((go_at_call 56; exact kept_call (unhide qk _))))
        refine wpQuiet_nil ?_
        rintro _ ⟨q, rfl⟩
        go_wp2_with fail
        exact ⟨⟨k + 1, by omega, by go_num, hide (bTr (unhide bk) q.h), stepA⟩, by simp [intOf]; omega⟩
    · have e : k = items.length := by rw [← (unhide HS).1]; omega
      have hA : Hid (AllA items items.length) := hide (by rw [← e]; exact unhide hall)
      clear e hall
      have bb := hide (bTr (unhide B0) (unhide hb))
      by_cases hne : l2 = l1
      · have hfin : Hid (GoodVal ⟨3, ⟨0, 0, ⟨#[]⟩, ⟨#[]⟩⟩, items, names⟩ ↔ (AllN names names.length ∧ RisN names names.length)) := hide (by
          rw [unhide HG]
          have hl : items.length ≤ 50 := by rw [← (unhide HS).1]; omega
          have hl2 : names.length = items.length := by rw [← (unhide HS).1, ← (unhide HS2).1]; exact hne
          exact ⟨fun h => h.2.2.2.2, fun h => ⟨⟨rfl, rfl, by rw [ByteArray.toList_eq], by rw [ByteArray.toList_eq]⟩, hl, unhide hA, hl2, h⟩⟩)
        obtain ⟨v0, _, _, _, _, v5, v6, _⟩ := (unhide QV).keep (unhide hb)
        have dne : ((l2 : Int) != (l1 : Int)) = false := by rw [hne]; simp
        have hl2 : l2 ≤ 50 := by omega
        clear hne
        go_wp2_with fail
        clear v0 v5 v6
        obtain ⟨wo, rfl⟩ : ∃ wo : World, wo = wr := ⟨_, rfl⟩
        go_loopw [88] (fun i w' => ∃ k : Nat, k ≤ l2 ∧ i = .int .i64 k ∧ Hid (Below W0.heap.size W0 w') ∧ Hid (AllN names k) ∧ Hid (RisN names k)) (fun i _ => l2 - (intOf i).toNat)
        case atStart => exact ⟨0, Nat.zero_le _, rfl, hb, hide (fun i _ h => absurd h (Nat.not_lt_zero _)), hide (fun i _ _ h => absurd h (Nat.not_lt_zero _))⟩
        case round =>
          clear hk hlt hb
          obtain ⟨k, hk, rfl, hb, hall, hris⟩ := hrel
          by_cases hlt : k < l2
          · have hk' : k < names.length := by rw [← (unhide HS2).1]; exact hlt
            obtain ⟨b, off, rfl, hrow⟩ := ((unhide HS2).keep (bTr (unhide B0) (unhide hb))).at hlt
            have c0 := hrow.c k hk'
            have qk := hide (fun w => sGoodName_any names[k] (hn _ (List.getElem_mem hk')) w)
            obtain ⟨v0, _, _, _, _, v5, v6, zv⟩ := (unhide QV).keep (unhide hb)
            have stepA := hide (fun g => (unhide hall).step hk' g)
            have noA : Hid (goodName names[k] = false → ¬ AllN names names.length) := hide (fun g h => by have := h k hk' hk'; rw [g] at this; cases this)
            rcases k with _ | j
            · have stepR := hide ((unhide hris).step hk' (fun h => absurd h (Nat.lt_irrefl 0)))
              rw [Nat.add_zero] at c0
              clear hrow
              generalize names[0] = P at *
              cases g : goodName P
              · rw [g] at qk
                replace noA := hide (unhide noA g)
                clear g
                go_wp2_with (go_at_call 58; refine (unhide qk _).mono ?_; rintro e w' ⟨rfl, rfl⟩)
                go_ret
                exact ⟨retB (b := false) (by rw [unhide hfin]; exact ⟨fun h => (by cases h), fun h => absurd h.1 (unhide noA)⟩), bTr (unhide B0) (unhide hb)⟩
              · rw [g] at qk
                replace stepA := hide (unhide stepA g)
                clear g
                go_wp2_with (go_at_call 58; refine (unhide qk _).mono ?_; rintro e w' ⟨rfl, rfl⟩)
                exact ⟨⟨1, by omega, by go_num, hb, stepA, stepR⟩, by simp [intOf]; omega⟩
            · have pj := hrow.c j (by omega)
              have qc := hide (fun w => cmpText_any names[j] names[j + 1] w (hn _ (List.getElem_mem (show j < names.length by omega))))
              have stepR := hide (fun g : cmpT names[j].data.toList names[j + 1].data.toList < 0 => (unhide hris).step hk' (fun _ => g))
              have noR := hide (fun (g : ¬ cmpT names[j].data.toList names[j + 1].data.toList < 0) (h : RisN names names.length) => g (h (j + 1) hk' (by omega) hk'))
              have dj : decide (0 < (j : Int) + 1) = true := by simp; try omega
              clear hrow
              generalize names[j + 1] = P at *
              generalize names[j] = Q at *
              cases g : goodName P
              · rw [g] at qk
                replace noA := hide (unhide noA g)
                clear g
                go_wp2_with (go_at_call 58; refine (unhide qk _).mono ?_; rintro e w' ⟨rfl, rfl⟩)
                go_ret
                exact ⟨retB (b := false) (by rw [unhide hfin]; exact ⟨fun h => (by cases h), fun h => absurd h.1 (unhide noA)⟩), bTr (unhide B0) (unhide hb)⟩
              · rw [g] at qk
                replace stepA := hide (unhide stepA g)
                clear g
                by_cases hc : cmpT Q.data.toList P.data.toList < 0
                · have dc : decide (0 ≤ cmpT Q.data.toList P.data.toList) = false := by simp; omega
                  replace stepR := hide (unhide stepR hc)
                  clear hc
                  go_wp2_with (first | (go_at_call 58; refine (unhide qk _).mono ?_; rintro e w' ⟨rfl, rfl⟩) | (go_at_call 59; refine (unhide qc _).mono ?_; rintro e w5 ⟨rfl, hb5⟩))
                  exact ⟨⟨j + 1 + 1, by omega, by go_num, hide (bTr (unhide hb) hb5), stepA, stepR⟩, by simp [intOf]; omega⟩
                · have dc : decide (0 ≤ cmpT Q.data.toList P.data.toList) = true := by simp; omega
                  replace noR := hide (unhide noR hc)
                  clear hc
                  go_wp2_with (first | (go_at_call 58; refine (unhide qk _).mono ?_; rintro e w' ⟨rfl, rfl⟩) | (go_at_call 59; refine (unhide qc _).mono ?_; rintro e w5 ⟨rfl, hb5⟩))
                  go_ret
                  exact ⟨retB (b := false) (by rw [unhide hfin]; exact ⟨fun h => (by cases h), fun h => absurd h.2 (unhide noR)⟩), bTr (unhide B0) (bTr (unhide hb) hb5)⟩
          · have e : k = names.length := by rw [← (unhide HS2).1]; omega
            have hf : Hid (GoodVal ⟨3, ⟨0, 0, ⟨#[]⟩, ⟨#[]⟩⟩, items, names⟩) := hide (by
              rw [unhide hfin, ← e]; exact ⟨unhide hall, unhide hris⟩)
            clear e
            go_wp2_with fail
            go_ret
            exact ⟨retB (b := true) (by simp [unhide hf]), bTr (unhide B0) (unhide hb)⟩
      · have dne : ((l2 : Int) != (l1 : Int)) = true := by simp; omega
        obtain ⟨v0, _, _, _, _, v5, v6, _⟩ := (unhide QV).keep (unhide hb)
        have hfin : Hid (¬ GoodVal ⟨3, ⟨0, 0, ⟨#[]⟩, ⟨#[]⟩⟩, items, names⟩) := hide (by
          rw [unhide HG, ← (unhide HS).1, ← (unhide HS2).1]; intro h; exact hne h.2.2.2.1)
        clear hne
        go_wp2_with fail
        go_ret
        exact ⟨retB (b := false) (by simp [unhide hfin]), unhide bb⟩
end Go.Proofs.YthemcakenammdaaGreatDoor.V
/- WCmpA, ported from seat 1a. -/
namespace Go.Proofs.YthemcakenammdaaGreatDoor.V
open Go.RowKit

def cmpG (x n : Int) (t y : ByteArray) (x' n' : Int) (t' y' : ByteArray) : Int :=
  if goodAtom x n t y = true ∧ goodAtom x' n' t' y' = true then cmpA x n t y x' n' t' y' else -2

set_option maxHeartbeats 1000000 in
theorem iCompare_any (x n : Int) (t y : ByteArray) (x' n' : Int) (t' y' : ByteArray) (w : World) (h9 : n ≤ 9223372036854775807) (ht : t.size ≤ maxLen) (hy : y.size ≤ maxLen)
    (h9' : n' ≤ 9223372036854775807) (ht' : t'.size ≤ maxLen) (hy' : y'.size ≤ maxLen) :
    Calls Tryz.prog 89 #[.agg #[.int .i64 x, .int .i64 n, .string t, .string y], .agg #[.int .i64 x', .int .i64 n', .string t', .string y']] w
      fun e w' => e = .returned (.int .i64 (cmpG x n t y x' n' t' y')) ∧ Below w.heap.size w w' := by
  have hA := hide (fun w => iGoodAtom_any x n t y w h9 ht hy)
  have hB := hide (fun w => iGoodAtom_any x' n' t' y' w h9' ht' hy')
  unfold cmpG
  generalize goodAtom x n t y = ga at hA ⊢
  generalize goodAtom x' n' t' y' = gb at hB ⊢
  clear h9 ht hy h9' ht' hy'
  cases ga
  · rw [if_neg (by simp)]
    go_enter Tryz.func89, Tryz.ntmps89
    go_wp2_with fail
    refine (unhide hA _).mono ?_
    rintro e w1 ⟨rfl, hb1⟩
    go_wp2_with fail
    go_ret
    exact ⟨rfl, bTr (bAl (bAl (Below.refl _ _) _) _) hb1⟩
  cases gb
  · rw [if_neg (by simp)]
    go_enter Tryz.func89, Tryz.ntmps89
    go_wp2_with fail
    refine (unhide hA _).mono ?_
    rintro e w1 ⟨rfl, hb1⟩
    obtain ⟨d0, d1, d2, d3, _⟩ := (AtomAt.new1 w _ _ _ _ _ _).keep hb1
    go_wp2_with fail
    refine (unhide hB _).mono ?_
    rintro e w2 ⟨rfl, hb2⟩
    go_wp2_with fail
    go_ret
    exact ⟨rfl, bTr (bTr (bAl (bAl (Below.refl _ _) _) _) hb1) hb2⟩
  rw [if_pos (by simp)]
  by_cases heq : x = x' ∧ n = n' ∧ t.toList = t'.toList ∧ y.toList = y'.toList
  · obtain ⟨rfl, rfl, ht, hy⟩ := heq
    rw [ByteArray.toList_eq, ByteArray.toList_eq] at ht hy
    obtain rfl := Go.WideShapes.bytes_inj ht
    obtain rfl := Go.WideShapes.bytes_inj hy
    clear ht hy
    have hz : cmpA x n t y x n t y = 0 := by
      unfold cmpA
      rw [cmpN_self, cmpN_self, cmpT_self, cmpT_self]; rfl
    rw [hz]
    clear hz
    go_enter Tryz.func89, Tryz.ntmps89
    go_wp2_with fail
    refine (unhide hA _).mono ?_
    rintro e w1 ⟨rfl, hb1⟩
    have qa := ((AtomAt.new w _ _ _ _ _).more _).keep hb1
    have qb := (AtomAt.new1 w _ _ _ _ _ _).keep hb1
    obtain ⟨d0, d1, d2, d3, _⟩ := hide qb
    go_wp2_with fail
    refine (unhide hB _).mono ?_
    rintro e w2 ⟨rfl, hb2⟩
    clear d0 d1 d2 d3
    obtain ⟨c0, c1, c2, c3, _⟩ := qa.keep hb2
    obtain ⟨d0, d1, d2, d3, _⟩ := qb.keep hb2
    have bw2 := bTr (bTr (bAl (bAl (Below.refl _ _) _) _) hb1) hb2
    clear qa qb hb1 hb2 hA hB
    go_wp2_with fail
    go_ret
    exact ⟨rfl, bw2⟩
  have HE := hide heq
  clear heq
  have h1 := hide (fun w => compareInt_any x x' w)
  have h2 := hide (fun w => compareInt_any n n' w)
  have h3 := hide (fun w => compareStr_any y y' w)
  have h4 := hide (fun w => compareStr_any t t' w)
  unfold cmpA
  generalize cmpN x x' = v0 at h1 ⊢
  generalize cmpN n n' = v1 at h2 ⊢
  generalize cmpT y.data.toList y'.data.toList = v2 at h3 ⊢
  generalize cmpT t.data.toList t'.data.toList = v3 at h4 ⊢
  go_enter Tryz.func89, Tryz.ntmps89
  go_wp2_with fail
  refine (unhide hA _).mono ?_
  rintro e w1 ⟨rfl, hb1⟩
  have qa := ((AtomAt.new w _ _ _ _ _).more _).keep hb1
  have qb := (AtomAt.new1 w _ _ _ _ _ _).keep hb1
  obtain ⟨d0, d1, d2, d3, _⟩ := hide qb
  go_wp2_with fail
  refine (unhide hB _).mono ?_
  rintro e w2 ⟨rfl, hb2⟩
  clear d0 d1 d2 d3
  obtain ⟨c0, c1, c2, c3, _⟩ := qa.keep hb2
  obtain ⟨d0, d1, d2, d3, _⟩ := qb.keep hb2
  have bw2 := bTr (bTr (bAl (bAl (Below.refl _ _) _) _) hb1) hb2
  clear qa qb hb1 hb2 hA hB
  go_upto_region 3 with fail
  go_cut [0, 1, 15] (fun s0 s1 s w' => s0 = .agg #[.int .i64 x, .int .i64 n, .string t, .string y] ∧ s1 = .agg #[.int .i64 x', .int .i64 n', .string t', .string y'] ∧ s = .bool false ∧ w' = w2)
  case first =>
    clear h1 h2 h3 h4
    go_wp2_with fail
    · exact absurd ⟨‹_›, ‹_›, ‹_›, ‹_›⟩ (unhide HE)
    all_goals go_meet
    all_goals (clear HE; refine ⟨by simp [*], rfl, rfl, rfl⟩)
  case rest =>
    obtain ⟨rfl, rfl, rfl, rfl⟩ := hcut
    clear HE
    go_wp2_with fail
    have zA : w.heap.size < wc.heap.size := World.block_lt_of_cell? wc _ c1
    have zB : w.heap.size + 1 < wc.heap.size := World.block_lt_of_cell? wc _ d1
    go_region_held3 (fun w' => w'.cell? ⟨w.heap.size, 0, none⟩ = some (.int .i64 x) ∧ w'.cell? ⟨w.heap.size, 1, none⟩ = some (.int .i64 n) ∧ w'.cell? ⟨w.heap.size, 2, none⟩ = some (.string t) ∧ w'.cell? ⟨w.heap.size, 3, none⟩ = some (.string y)
        ∧ w'.cell? ⟨w.heap.size + 1, 0, none⟩ = some (.int .i64 x') ∧ w'.cell? ⟨w.heap.size + 1, 1, none⟩ = some (.int .i64 n') ∧ w'.cell? ⟨w.heap.size + 1, 2, none⟩ = some (.string t') ∧ w'.cell? ⟨w.heap.size + 1, 3, none⟩ = some (.string y'))
      ((refine ⟨cellB (W := wc) ?_ zA c0, cellB (W := wc) ?_ zA c1, cellB (W := wc) ?_ zA c2, cellB (W := wc) ?_ zA c3, cellB (W := wc) ?_ zB d0, cellB (W := wc) ?_ zB d1, cellB (W := wc) ?_ zB d2, cellB (W := wc) ?_ zB d3⟩ <;> (repeat (first | exact Below.refl _ _ | refine Below.drew ?_ | refine bAl ?_ _))))
      (first
        | (go_at_call_of 104 x; refine (unhide h1 _).mono ?_; rintro e w' ⟨rfl, rfl⟩)
        | (go_at_call_of 104 n; refine (unhide h2 _).mono ?_; rintro e w' ⟨rfl, rfl⟩)
        | (go_at_call_of 105 y; refine (unhide h3 _).mono ?_; rintro e w' ⟨rfl, rfl⟩)
        | (go_at_call_of 105 t; refine (unhide h4 _).mono ?_; rintro e w' ⟨rfl, rfl⟩)
        | (go_at_call 103; refine (cmpOr_any wc.heap.size v0 v1 v2 v3 _ ?_ ?_ ?_ ?_).mono ?_; (go_simp); (go_simp); (go_simp); (go_simp); rintro e w' ⟨rfl, rfl⟩))
    go_wp2_with fail
    go_ret
    refine ⟨rfl, bTr bw2 ?_⟩
    (repeat (first | exact Below.refl _ _ | refine Below.drew ?_ | refine bAl ?_ _))
end Go.Proofs.YthemcakenammdaaGreatDoor.V
