/- DDigL, DCat, one behind the other. -/
import Derived.Test.YthemcakenammdaaGreatDoorJ26
import Derived.Lib.AppendZeros
import Derived.Lib.SliceRun
/- spec.Digest. -/
namespace Go.Proofs.YthemcakenammdaaGreatDoor.D
set_option maxRecDepth 20000
open Go.RowKit

theorem digD_no {l : List UInt8} (h : 20000 < l.length) : [] = digD l := (if_neg (by omega)).symm
theorem digD_yes {l : List UInt8} (h : l.length ≤ 20000) : dig l = digD l := (if_pos h).symm
theorem digD_len (l : List UInt8) : (digD l).length ≤ 16 := by
  by_cases h : l.length ≤ 20000
  · have := dig_len l
    rw [digD_yes h] at this
    omega
  · rw [← digD_no (by omega)]; simp
end Go.Proofs.YthemcakenammdaaGreatDoor.D
/- slices.Grow of nil, slices.Concat of two. -/
namespace Go.Proofs.YthemcakenammdaaGreatDoor.D
set_option maxRecDepth 20000
open Go.RowKit

theorem info_eq : ∃ i, Tryz.prog.info? 5 = some i ∧ i.zero = some (.int .u8 0) ∧ i.size = 1 ∧ i.bytes = 1 := by
  obtain ⟨i, h1, h2⟩ := Option.map_eq_some_iff.1 info_u8
  simp only [Prod.mk.injEq] at h2
  exact ⟨i, h1, h2.1, h2.2.1, h2.2.2⟩
set_option maxHeartbeats 1000000 in
theorem grow_any (n : Nat) (w : World) (h0 : 0 < n) (hn : n ≤ 100000) :
    Calls Tryz.prog 55 #[.slice none 0 0, .int .i64 n] w fun e w' => ∃ v, e = .returned v ∧ w'.ownsRow w.heap.size 5 1 v 0 [] ∧ Below w.heap.size w w' := by
  obtain ⟨i, hi, hz, hs, hb⟩ := info_eq
  obtain ⟨G, hG⟩ : ∃ G, G = grownCap w n 0 5 := ⟨_, rfl⟩
  have hGn := grownCap_ge w n 0 5
  have hG63 := grownCap_le_maxLen w n 0 5 (by unfold maxLen; omega)
  have happ := fun ty => Lib.run_append_nil_zeros (P := Tryz.prog) w 44 3 ty 5 i (.int .u8 0) .i64 .i64 Tryz.underlying44 Tryz.underlying3 hi hz n h0 (by omega) (by omega) (by rw [hb]; omega)
  rw [← hG] at hGn hG63 happ
  have hsz := hide (show (Builtin.zeroCells (Value.int IntKind.u8 0).cells n ++ Builtin.zeroCells (Value.int IntKind.u8 0).cells (G - n)).size = G by
    simp [Builtin.zeroCells, Value.cells]; omega)
  unfold maxLen at hG63
  clear hG
  generalize Builtin.zeroCells (Value.int IntKind.u8 0).cells n ++ Builtin.zeroCells (Value.int IntKind.u8 0).cells (G - n) = Z at happ hsz
  go_enter Tryz.func55, Tryz.ntmps55
  go_wp2_with (at_builtin; refine Lib.wpList_append_run _ rfl _ _ _ _ rfl _ _ rfl rfl _ _ (happ _) ?_)
  go_ret
  have hr : RowIs (w.drew.alloc (.cells Z 5)) w.heap.size Z 5 := RowIs.new w.drew Z 5
  exact ⟨_, rfl, ⟨by simp, .inr ⟨w.heap.size, G, Z, rfl, Nat.le_refl _, hr, Nat.zero_le _, by unfold maxLen; omega, by rw [unhide hsz]; omega, by simp⟩⟩, ((Below.refl _ _).drew).alloc (Nat.le_refl _) _⟩

theorem sl_news {w : World} {B b off n : Nat} {l : List UInt8} (h : SlB w B (some ⟨b, off, none⟩) n l) : ∀ j u, (l.map byteV)[j]? = some u → w.cell? ((⟨b, off, none⟩ : Addr).add j) = some u := by
  intro j u hj
  have hjl : j < l.length := by
    apply Classical.byContradiction
    intro hn
    rw [List.getElem?_eq_none (by simpa using hn)] at hj
    cases hj
  obtain ⟨b', off', e', _, _, hc⟩ := h.at (k := j) (by rw [h.1]; exact hjl)
  simp only [Option.some.injEq, Addr.mk.injEq] at e'
  obtain ⟨rfl, rfl, _⟩ := e'
  have e : (⟨b, off, none⟩ : Addr).add j = ⟨b, off + j, none⟩ := by
    simp only [Addr.add]
    split
    · next h => subst h; rfl
    · rfl
  rw [e, hc j hjl]
  simp [hjl] at hj
  rw [← hj]

set_option maxHeartbeats 2000000 in
theorem concat_any (g b1 o1 n1 c1 b2 o2 n2 c2 : Nat) (l m : List UInt8) (w : World) (h1 : 0 < n1) (h1' : n1 ≤ 30000) (h2' : n2 ≤ 30000)
    (hg : RowIs w g #[.slice (some ⟨b1, o1, none⟩) n1 c1, .slice (some ⟨b2, o2, none⟩) n2 c2] 44) (hl : SlB w w.heap.size (some ⟨b1, o1, none⟩) n1 l) (hm : SlB w w.heap.size (some ⟨b2, o2, none⟩) n2 m) :
    Calls Tryz.prog 28 #[.slice (some ⟨g, 0, none⟩) 2 2] w fun e w' => ∃ v D, Hid (D = l ++ m) ∧ e = .returned v ∧ w'.ownsRow w.heap.size 5 1 v D.length (D.map byteV) ∧ Below w.heap.size w w' := by
  obtain ⟨i0, hi, hz0, hz1, hz2⟩ := info_parts info_u8
  have HG := hide hg
  have HL := hide hl
  have HM := hide hm
  have el := hide hl.1
  have em := hide hm.1
  clear hg hl hm
  have x0 := (unhide HG).at (o := 0) rfl
  have x1 := (unhide HG).at (o := 1) rfl
  go_enter Tryz.func28, Tryz.ntmps28
  go_wp2_with fail
  go_loop [3, 5, 11] (fun s _ i => ∃ k : Nat, k ≤ 2 ∧ i = .int .i64 k ∧ ∃ t : Nat, s = .int .i64 t ∧ t = if k = 0 then 0 else if k = 1 then n1 else n1 + n2) (fun _ _ i => 2 - (intOf i).toNat)
  case atStart => exact ⟨0, by omega, rfl, 0, rfl, rfl⟩
  case round =>
    obtain ⟨k, hk, rfl, t, rfl, ht⟩ := hrel
    by_cases hk2 : k < 2
    · have hc : k = 0 ∨ k = 1 := by omega
      rcases hc with rfl | rfl
      · obtain rfl : t = 0 := by simpa using ht
        clear ht
        go_wp2_with fail
        exact ⟨⟨1, by omega, by go_num, n1, by simp, by simp⟩, by simp [intOf]⟩
      · obtain rfl : t = n1 := by simpa using ht
        clear ht
        go_wp2_with fail
        exact ⟨⟨2, by omega, by go_num, t + n2, by simp, by simp⟩, by simp [intOf]⟩
    · obtain rfl : t = n1 + n2 := by
        rw [if_neg (by omega), if_neg (by omega)] at ht; exact ht
      clear ht
      have hcast := hide (show ((n1 + n2 : Nat) : Int) = (n1 : Int) + (n2 : Int) by simp)
      clear x0 x1
      go_wp2_with fail
      rw [← unhide hcast]
      refine (grow_any (n1 + n2) _ (by omega) (by omega)).mono ?_
      rintro e w1 ⟨v1, rfl, ho1, hb1⟩
      have O1 := hide ho1
      have B1 := hide hb1
      clear ho1 hb1
      go_wp2_with fail
      go_loopw [6, 8, 27] (fun v _ i w' => ∃ (k : Nat) (D : List UInt8), k ≤ 2 ∧ i = .int .i64 k ∧ D.length ≤ 60000 ∧ Hid (D = if k = 0 then [] else if k = 1 then l else l ++ m) ∧ Hid (w'.ownsRow w.heap.size 5 1 v D.length (D.map byteV)) ∧ Hid (Below w.heap.size w w')) (fun _ _ i _ => 2 - (intOf i).toNat)
      case atStart => exact ⟨0, [], by omega, rfl, by simp, hide rfl, O1, B1⟩
      case round =>
        obtain ⟨k, D, hk, rfl, hDl, hD, ho, hb⟩ := hrel
        have hzb := (unhide hb).size
        by_cases hk2 : k < 2
        · have hc : k = 0 ∨ k = 1 := by omega
          have hrow := (unhide HG).keep (unhide hb)
          have y0 : wr.cell? ⟨g, 0, none⟩ = some (.slice (some ⟨b1, o1, none⟩) n1 c1) := hrow.at rfl
          have y1 : wr.cell? ⟨g, 1, none⟩ = some (.slice (some ⟨b2, o2, none⟩) n2 c2) := hrow.at rfl
          have L1 := hide (sl_news ((unhide HL).keep (unhide hb)))
          have L2 := hide (sl_news ((unhide HM).keep (unhide hb)))
          clear hrow
          rcases hc with rfl | rfl
          · obtain rfl : D = [] := by simpa using unhide hD
            go_wp2_with (at_builtin; refine wpList_append_own _ rfl _ _ 44 rfl w.heap.size 5 i0 (.int .u8 0) 1 1 Tryz.underlying44 hi hz0 hz1 hz2 rfl (by decide) _ _ _ rfl (unhide ho) ⟨b1, o1, none⟩ n1 c1 (l.map byteV) rfl (by rw [unhide el]; simp) (unhide L1) one_cell (by unfold maxLen; simp; omega) (by simp; omega) hzb ?_; intro v' w9 hown9 hgrow9 _)
            exact ⟨⟨1, l, by omega, by go_num, by rw [← unhide el]; omega, hide (by simp), hide (by have := hown9; simp only [List.length_nil, Nat.zero_add, List.map_nil, List.nil_append] at this; rw [← unhide el]; exact this), hide ((unhide hb).grown hgrow9 hzb (fun j hj => ((unhide ho).lt j hj).1))⟩, by simp [intOf]⟩
          · obtain rfl : D = l := by simpa using unhide hD
            go_wp2_with (at_builtin; refine wpList_append_own _ rfl _ _ 44 rfl w.heap.size 5 i0 (.int .u8 0) 1 1 Tryz.underlying44 hi hz0 hz1 hz2 rfl (by decide) _ _ _ rfl (unhide ho) ⟨b2, o2, none⟩ n2 c2 (m.map byteV) rfl (by rw [unhide em]; simp) (unhide L2) one_cell (by unfold maxLen; omega) (by omega) hzb ?_; intro v' w9 hown9 hgrow9 _)
            exact ⟨⟨2, D ++ m, by omega, by go_num, by rw [List.length_append, ← unhide el, ← unhide em]; omega, hide (by simp), hide (by rw [List.length_append, List.map_append, ← unhide em]; exact hown9), hide ((unhide hb).grown hgrow9 hzb (fun j hj => ((unhide ho).lt j hj).1))⟩, by simp [intOf]⟩
        · have E := hide (show D = l ++ m by have := unhide hD; rwa [if_neg (by omega), if_neg (by omega)] at this)
          clear hD
          go_wp2_with fail
          go_ret
          exact ⟨_, D, E, rfl, unhide ho, unhide hb⟩
end Go.Proofs.YthemcakenammdaaGreatDoor.D
