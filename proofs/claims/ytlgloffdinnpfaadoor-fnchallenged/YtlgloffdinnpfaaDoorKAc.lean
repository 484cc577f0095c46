/- slices.Concat of three; conversions. -/
import Derived.Test.YtlgloffdinnpfaaDoorDVrfB
import Derived.Laws.IdiomStrings
namespace Go.Proofs.YtlgloffdinnpfaaDoor.D
set_option maxRecDepth 20000
open Go.RowKit

set_option maxHeartbeats 4000000 in
theorem concat3_any (g b1 o1 n1 c1 b2 o2 n2 c2 b3 o3 n3 c3 : Nat) (l m q : List UInt8) (w : World) (h1 : 0 < n1) (h1' : n1 ≤ 20000) (h2' : n2 ≤ 20000) (h3' : n3 ≤ 20000)
    (hg : RowIs w g #[.slice (some ⟨b1, o1, none⟩) n1 c1, .slice (some ⟨b2, o2, none⟩) n2 c2, .slice (some ⟨b3, o3, none⟩) n3 c3] 22) (hl : SlB w w.heap.size (some ⟨b1, o1, none⟩) n1 l) (hm : SlB w w.heap.size (some ⟨b2, o2, none⟩) n2 m) (hq : SlB w w.heap.size (some ⟨b3, o3, none⟩) n3 q) :
    Calls Tryd.prog 36 #[.slice (some ⟨g, 0, none⟩) 3 3] w fun e w' => ∃ v D, Hid (D = l ++ m ++ q) ∧ e = .returned v ∧ w'.ownsRow w.heap.size 5 1 v D.length (D.map byteV) ∧ Below w.heap.size w w' := by
  obtain ⟨i0, hi, hz0, hz1, hz2⟩ := info_parts info_u8
  have HG := hide hg
  have HL := hide hl
  have HM := hide hm
  have HQ := hide hq
  have el := hide hl.1
  have em := hide hm.1
  have eq := hide hq.1
  clear hg hl hm hq
  have x0 := (unhide HG).at (o := 0) rfl
  have x1 := (unhide HG).at (o := 1) rfl
  have x2 := (unhide HG).at (o := 2) rfl
  go_enter Tryd.func36, Tryd.ntmps36
  go_wp2_with fail
  go_loop [3, 5, 11] (fun s _ i => ∃ k : Nat, k ≤ 3 ∧ i = .int .i64 k ∧ ∃ t : Nat, s = .int .i64 t ∧ t = if k = 0 then 0 else if k = 1 then n1 else if k = 2 then n1 + n2 else n1 + n2 + n3) (fun _ _ i => 3 - (intOf i).toNat)
  case atStart => exact ⟨0, by omega, rfl, 0, rfl, rfl⟩
  case round =>
    obtain ⟨k, hk, rfl, t, rfl, ht⟩ := hrel
    by_cases hk2 : k < 3
    · have hc : k = 0 ∨ k = 1 ∨ k = 2 := by omega
      rcases hc with rfl | rfl | rfl
      · obtain rfl : t = 0 := by simpa using ht
        clear ht
        go_wp2_with fail
        exact ⟨⟨1, by omega, by go_num, n1, by simp, by simp⟩, by simp [intOf]⟩
      · obtain rfl : t = n1 := by simpa using ht
        clear ht
        go_wp2_with fail
        exact ⟨⟨2, by omega, by go_num, t + n2, by simp, by simp⟩, by simp [intOf]⟩
      · have et : t = n1 + n2 := by simpa using ht
        have t9 : t ≤ 40000 := by omega
        have ET := hide et
        clear ht et
        go_wp2_with fail
        exact ⟨⟨3, by omega, by go_num, t + n3, by simp, by rw [unhide ET]; simp⟩, by simp [intOf]⟩
    · have et : t = n1 + n2 + n3 := by
        rw [if_neg (by omega), if_neg (by omega), if_neg (by omega)] at ht; exact ht
      have t9 : t ≤ 60000 := by omega
      have t0 : 0 < t := by omega
      clear ht et x0 x1 x2
      go_wp2_with fail
      refine (grow_any t _ (by omega) (by omega)).mono ?_
      rintro e w1 ⟨v1, rfl, ho1, hb1⟩
      have O1 := hide ho1
      have B1 := hide hb1
      clear ho1 hb1
      go_wp2_with fail
      go_loopw [6, 8, 27] (fun v _ i w' => ∃ (k : Nat) (D : List UInt8), k ≤ 3 ∧ i = .int .i64 k ∧ D.length ≤ 60000 ∧ Hid (D = if k = 0 then [] else if k = 1 then l else if k = 2 then l ++ m else l ++ m ++ q) ∧ Hid (w'.ownsRow w.heap.size 5 1 v D.length (D.map byteV)) ∧ Hid (Below w.heap.size w w')) (fun _ _ i _ => 3 - (intOf i).toNat)
      case atStart => exact ⟨0, [], by omega, rfl, by simp, hide rfl, O1, B1⟩
      case round =>
        obtain ⟨k, D, hk, rfl, hDl, hD, ho, hb⟩ := hrel
        have hzb := (unhide hb).size
        by_cases hk2 : k < 3
        · have hc : k = 0 ∨ k = 1 ∨ k = 2 := by omega
          have hrow := (unhide HG).keep (unhide hb)
          have y0 : wr.cell? ⟨g, 0, none⟩ = some (.slice (some ⟨b1, o1, none⟩) n1 c1) := hrow.at rfl
          have y1 : wr.cell? ⟨g, 1, none⟩ = some (.slice (some ⟨b2, o2, none⟩) n2 c2) := hrow.at rfl
          have y2 : wr.cell? ⟨g, 2, none⟩ = some (.slice (some ⟨b3, o3, none⟩) n3 c3) := hrow.at rfl
          have L1 := hide (sl_news ((unhide HL).keep (unhide hb)))
          have L2 := hide (sl_news ((unhide HM).keep (unhide hb)))
          have L3 := hide (sl_news ((unhide HQ).keep (unhide hb)))
          clear hrow
          rcases hc with rfl | rfl | rfl
          · obtain rfl : D = [] := by simpa using unhide hD
            go_wp2_with (at_builtin; refine wpList_append_own _ rfl _ _ 22 rfl w.heap.size 5 i0 (.int .u8 0) 1 1 Tryd.underlying22 hi hz0 hz1 hz2 rfl (by decide) _ _ _ rfl (unhide ho) ⟨b1, o1, none⟩ n1 c1 (l.map byteV) rfl (by rw [unhide el]; simp) (unhide L1) one_cell (by unfold maxLen; simp; omega) (by simp; omega) hzb ?_; intro v' w9 hown9 hgrow9 _)
            exact ⟨⟨1, l, by omega, by go_num, by rw [← unhide el]; omega, hide (by simp), hide (by have := hown9; simp only [List.length_nil, Nat.zero_add, List.map_nil, List.nil_append] at this; rw [← unhide el]; exact this), hide ((unhide hb).grown hgrow9 hzb (fun j hj => ((unhide ho).lt j hj).1))⟩, by simp [intOf]⟩
          · obtain rfl : D = l := by simpa using unhide hD
            go_wp2_with (at_builtin; refine wpList_append_own _ rfl _ _ 22 rfl w.heap.size 5 i0 (.int .u8 0) 1 1 Tryd.underlying22 hi hz0 hz1 hz2 rfl (by decide) _ _ _ rfl (unhide ho) ⟨b2, o2, none⟩ n2 c2 (m.map byteV) rfl (by rw [unhide em]; simp) (unhide L2) one_cell (by unfold maxLen; omega) (by omega) hzb ?_; intro v' w9 hown9 hgrow9 _)
            exact ⟨⟨2, D ++ m, by omega, by go_num, by rw [List.length_append, ← unhide el, ← unhide em]; omega, hide (by simp), hide (by rw [List.length_append, List.map_append, ← unhide em]; exact hown9), hide ((unhide hb).grown hgrow9 hzb (fun j hj => ((unhide ho).lt j hj).1))⟩, by simp [intOf]⟩
          · have eD : D = l ++ m := by simpa using unhide hD
            have ED := hide eD
            have lD : D.length ≤ 40000 := by rw [eD, List.length_append, ← unhide el, ← unhide em]; omega
            clear eD
            go_wp2_with (at_builtin; refine wpList_append_own _ rfl _ _ 22 rfl w.heap.size 5 i0 (.int .u8 0) 1 1 Tryd.underlying22 hi hz0 hz1 hz2 rfl (by decide) _ _ _ rfl (unhide ho) ⟨b3, o3, none⟩ n3 c3 (q.map byteV) rfl (by rw [unhide eq]; simp) (unhide L3) one_cell (by unfold maxLen; omega) (by omega) hzb ?_; intro v' w9 hown9 hgrow9 _)
            exact ⟨⟨3, D ++ q, by omega, by go_num, by rw [List.length_append, ← unhide eq]; omega, hide (by rw [unhide ED]; simp), hide (by rw [List.length_append, List.map_append, ← unhide eq]; exact hown9), hide ((unhide hb).grown hgrow9 hzb (fun j hj => ((unhide ho).lt j hj).1))⟩, by simp [intOf]⟩
        · have E := hide (show D = l ++ m ++ q by have := unhide hD; rwa [if_neg (by omega), if_neg (by omega), if_neg (by omega)] at this)
          clear hD
          go_wp2_with fail
          go_ret
          exact ⟨_, D, E, rfl, unhide ho, unhide hb⟩
/-- The bytes of a text in a new block. -/
theorem conv_bytes (p : ByteArray) (w : World) : ∃ cap w1, (convert 9 22 (.string p)).run Tryd.prog w = .ok (.slice (some ⟨w.heap.size, 0, none⟩) p.size cap) w1 ∧ Below w.heap.size w w1 ∧ SlB w1 w1.heap.size (some ⟨w.heap.size, 0, none⟩) p.size p.data.toList := by
  refine ⟨_, _, run_bytes_of_string w 9 22 5 p Tryd.underlying9 Tryd.underlying22 Tryd.underlying5, ((Below.refl _ _).drew).alloc (Nat.le_refl _) _, ?_⟩
  generalize grownCap w p.size 0 5 = G
  have hz : w.heap.size < (w.drew.alloc (.cells (bytesRow p G) 5 ((bytesRow p G).size, (bytesRow p G).size + 1))).heap.size := by
    show w.heap.size < (w.heap.push _).size; simp
  refine ⟨by simp, .inr ⟨w.heap.size, 0, rfl, hz, hz, fun i hi => ?_⟩⟩
  have hi' : i < p.data.size := by simpa using hi
  have hh : (w.drew.alloc (.cells (bytesRow p G) 5 ((bytesRow p G).size, (bytesRow p G).size + 1))).heap[w.heap.size]? = some (.cells (bytesRow p G) 5 ((bytesRow p G).size, (bytesRow p G).size + 1)) := by
    show (w.heap.push _)[w.heap.size]? = _; simp
  simp only [World.cell?, hh]
  simp only [bytesRow, byteV]
  rw [Array.getElem?_append_left (by simpa using hi')]
  simp
  exact ⟨_, Array.getElem?_eq_getElem hi', rfl⟩
end Go.Proofs.YtlgloffdinnpfaaDoor.D
