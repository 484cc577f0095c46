/- impl.coefficients. -/
import Derived.Test.YtoakdagncfaplaaDoorPsB
import Derived.Laws.AppendOwn
namespace Go.Proofs.YtoakdagncfaplaaDoor.D
open Go.RowKit

abbrev intV (z : Int) : Value := .int .i64 z
def fe (s : Int) (h : 0 ≤ s ∧ s < 1073741789) (l : List UInt8) (k : Nat) : List FE := ⟨s, h⟩ :: (List.range k).map fun i => ⟨cj l (i + 1), cj_range l (i + 1)⟩
theorem fe_val (s : Int) (h : 0 ≤ s ∧ s < 1073741789) (l : List UInt8) (k : Nat) : (fe s h l k).map (·.1) = cof s l k := by
  simp [fe, cof, Function.comp_def]
theorem fe_len (s : Int) (h : 0 ≤ s ∧ s < 1073741789) (l : List UInt8) (k : Nat) : (fe s h l k).length = k + 1 := by simp [fe]
theorem info_i64 : (Tryd.prog.info? 3).map (fun i => (i.zero, i.size, i.bytes)) = some (some (.int .i64 0), 1, 8) := by kernel_rfl
theorem lit_own (w : World) (s : Int) : (w.alloc (.cells #[intV s] 3)).ownsRow w.heap.size 3 1 (.slice (some ⟨w.heap.size, 0, none⟩) 1 1) 1 [intV s] := by
  refine ⟨rfl, .inr ⟨w.heap.size, 1, #[intV s], rfl, Nat.le_refl _, heap_alloc_new w _, Nat.le_refl _, by unfold maxLen; omega, by simp, by simp⟩⟩

theorem own_kB {w w' : World} {base n e size : Nat} {v : Value} {xs : List Value} (h : w.ownsRow base e size v n xs) (hb : Below w.heap.size w w') : w'.ownsRow base e size v n xs := by
  refine ⟨h.1, h.2.imp_right ?_⟩
  rintro ⟨g, cap, cur, e', h1, hh, r⟩
  exact ⟨g, cap, cur, e', h1, RowIs.keep (T := e) hh hb, r⟩
theorem one_slB (w : World) (x : UInt8) : SlB (w.alloc (.cells #[.int .u8 (x.toNat : Int)] 5)) (w.alloc (.cells #[.int .u8 (x.toNat : Int)] 5)).heap.size (some ⟨w.heap.size, 0, none⟩) 1 [x] := by
  exact slB_row (l := [x]) (RowIs.new w (cellsOf [x]) 5) (RowIs.new w (cellsOf [x]) 5).lt
theorem cj_is (l : List UInt8) (j : Nat) (D : List UInt8) (h : D = mac l [UInt8.ofNat j]) : ((num D : Nat) : Int) % 1073741789 = cj l j := by
  rw [h]; unfold cj; omega

set_option maxRecDepth 20000 in
set_option maxHeartbeats 1000000 in
theorem coefficients_any (s : Int) (need : Nat) (a : Option Addr) (len cap : Nat) (l : List UInt8) (w : World) (h1 : 1 ≤ need) (h2 : need ≤ 20) (hlen : len ≤ 20000) (hs : SlB w w.heap.size a len l) (hM : Mults w) :
    Calls Tryd.prog 12 #[.int .i64 s, .int .i64 (need : Int), .slice a len cap] w fun e w' => ∃ v, e = .returned v ∧ w'.ownsRow w.heap.size 3 1 v need ((cof s l (need - 1)).map intV) ∧ Below w.heap.size w w' := by
  obtain ⟨i0, hi, hz0, hz1, hz2⟩ := info_parts info_i64
  have O0 : Hid ((w.alloc (.cells #[intV s] 3)).ownsRow w.heap.size 3 1 (.slice (some ⟨w.heap.size, 0, none⟩) 1 1) (0 + 1) ((cof s l 0).map intV)) := hide (lit_own w s)
  have B0 := hide (bAl (Below.refl w.heap.size w) (.cells #[intV s] 3))
  have HS := hide hs
  have HM := hide hM
  have hll := hide hs.1
  have h00 := hM.1
  clear hs hM
  go_enter Tryd.func12, Tryd.ntmps12
  go_wp2_with fail
  go_loopw [7, 8] (fun v j w' => ∃ (k : Nat), k + 1 ≤ need ∧ j = .int .i64 ((k : Int) + 1) ∧ Hid (w'.ownsRow w.heap.size 3 1 v (k + 1) ((cof s l k).map intV)) ∧ Hid (Below w.heap.size w w')) (fun _ j _ => need - (Go.RowKit.intOf j).toNat)
  case atStart => exact ⟨0, h1, rfl, O0, B0⟩
  case round =>
    clear O0 B0
    obtain ⟨k, hk, rfl, ho, hb⟩ := hrel
    by_cases hlt : k + 1 < need
    · obtain ⟨x, hx⟩ : ∃ x : UInt8, x = UInt8.ofNat (k + 1) := ⟨_, rfl⟩
      have hxn : ((x.toNat : Nat) : Int) = (k : Int) + 1 := by rw [hx, UInt8.toNat_ofNat', Nat.mod_eq_of_lt (by omega)]; omega
      have i0' : (k : Int) + 1 < (need : Int) := by omega
      have i1' : (0 : Int) ≤ (k : Int) + 1 := by omega
      have i2' : (k : Int) + 1 ≤ 255 := by omega
      have SX := hide (one_slB wr x)
      rw [hxn] at SX
      obtain ⟨W1, hW1⟩ : ∃ W1, W1 = wr.alloc (.cells #[.int .u8 ((k : Int) + 1)] 5) := ⟨_, rfl⟩
      rw [← hW1] at SX
      have BA : Hid (Below wr.heap.size wr W1) := hide (by rw [hW1]; exact bAl (Below.refl _ _) _)
      have HW := hide hW1.symm
      have HX := hide hx
      clear hW1 hxn hx
      have BW := hide (bTr (unhide hb) (unhide BA))
      have O1 := hide (own_kB (unhide ho) (unhide BA))
      have SW := hide (((unhide HS).keep (unhide BW)).mono (unhide BW).size)
      have MW := hide ((unhide HM).keepB (unhide BW) h00)
      clear ho hb BA
      go_wp2_with fail
      rw [unhide HW]
      clear HW
      refine (iMac_any a _ len cap 1 1 l [x] W1 (by omega) (by omega) (unhide SW) (unhide SX) (unhide MW)).mono ?_
      rintro e w2 ⟨v2, D, hD, rfl, ho2, hb2⟩
      have HD : Hid (D = mac l [UInt8.ofNat (k + 1)]) := hide (by rw [← unhide HX, unhide hD]; exact (macD_yes ⟨by rw [← unhide hll]; exact hlen, by simp⟩).symm)
      have lD := hide (show D.length = 16 by rw [unhide HD]; exact mac_len _ _)
      obtain ⟨b2, c2, rfl, _, g1, g2, hs2⟩ := own_some ho2 (by rw [unhide lD]; decide)
      have CJ := hide (cj_is l (k + 1) D (unhide HD))
      have q := hide (numberOf_any b2 D.length c2 D w2 (by rw [unhide lD]; decide) g1 g2 hs2)
      have O2 := hide (own_kB (unhide O1) hb2)
      have B2 := hide (bTr (unhide BW) hb2)
      have nl := num_lt D
      obtain ⟨N, hN⟩ : ∃ N : Nat, num D = N := ⟨_, rfl⟩
      rw [hN] at q CJ nl
      clear ho2 hb2 hs2 hD O1 BW SW MW SX HX HD g1 g2 hN
      go_wp2_with fail
      refine (unhide q).mono ?_
      rintro e w3 ⟨rfl, rfl⟩
      clear q
      have n0 : (0 : Int) ≤ (N : Int) := by omega
      go_wp2_with (at_builtin; refine wpList_append_own _ rfl _ _ 39 rfl w.heap.size 3 i0 (.int .i64 0) 1 8 Tryd.underlying39 hi hz0 hz1 hz2 rfl (by decide) _ _ _ rfl ((unhide O2).alloc _) ⟨_, 0, none⟩ 1 1 [intV ((N : Int) % 1073741789)] rfl rfl (cell_one_new _ _ _) (fun x hx => by simp at hx; subst hx; rfl) (by unfold maxLen; omega) (by omega) (by have := (unhide B2).size; simp; omega) ?_; intro v' w4 hown1 hgrow1 _)
      refine ⟨⟨k + 1, by omega, by go_num, hide ?_, hide ((bAl (unhide B2) _).grown hgrow1 (by have := (unhide B2).size; simp; omega) (fun j hj => ((unhide O2).lt j hj).1))⟩, by simp [Go.RowKit.intOf]; omega⟩
      rw [unhide CJ] at hown1
      rw [cof_snoc, List.map_append]
      exact hown1
    · obtain rfl : need = k + 1 := by omega
      have ni : ¬ (k : Int) + 1 < ((k + 1 : Nat) : Int) := by omega
      go_wp2_with fail
      go_ret
      exact ⟨_, rfl, unhide ho, unhide hb⟩
end Go.Proofs.YtoakdagncfaplaaDoor.D
