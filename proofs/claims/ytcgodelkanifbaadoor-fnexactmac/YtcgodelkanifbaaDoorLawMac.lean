/- The row and the card of laws.FnExactMac: its walk, then the row's step. -/
import Derived.Test.YtcgodelkanifbaaDoorRows
import Derived.Test.YtcgodelkanifbaaDoorCards
import Derived.Test.YtcgodelkanifbaaDoorTie
import Derived.Test.YtcgodelkanifbaaDoorLawKit
import Derived.Test.YtcgodelkanifbaaDoorMac
import Derived.Test.YtcgodelkanifbaaDoorMark2
import Derived.WalkKit
import Derived.ProofKit
import Derived.OpenShut
import Derived.ShutString
import Derived.ChangeOld
import Derived.Below
import Derived.Lib.SmallJoins
import Derived.LaidMore
import Derived.ChangeVars
import Derived.SevenTiedAt
import Derived.Stop.Joined
namespace Go.Proofs.YtcgodelkanifbaaDoor.fnExactMac
open Go.ChangeShapes Go.WideShapes Go.ChangeAt Go.RowKit Go.Joins
set_option linter.unusedVariables false

set_option maxHeartbeats 4000000 in
theorem walk (a : Option Addr) (len cap : Nat) (zs : List Int) (a' : Option Addr) (len' cap' : Nat) (zs' : List Int) (w : World) (hr : IsRow .u8 w a len cap zs) (hr' : IsRow .u8 w a' len' cap' zs') (hM : Mults w) :
    Calls Tryd.prog 6 #[.slice a len cap, .slice a' len' cap'] w fun e w' => e = .returned (.bool true) ∧ Below w.heap.size w w' := by
  obtain ⟨⟨l, hs⟩, hc, hm⟩ := bytes_in hr
  obtain ⟨⟨l', hs'⟩, hc', hm'⟩ := bytes_in hr'
  clear hr hr'
  have hl : len ≤ maxLen := Nat.le_trans hc hm
  have hl' : len' ≤ maxLen := Nat.le_trans hc' hm'
  unfold maxLen at hl hl'
  have HS := hide hs
  have HS' := hide hs'
  have hll := hide hs.1
  have hll' := hide hs'.1
  have HM := hide hM
  have h00 := hM.1
  clear hs hs' hc hm hc' hm' hM
  by_cases h1 : (1048576 : Int) < (len : Int)
  · go_enter Tryd.func6, Tryd.ntmps6
    go_wp2_with fail
    go_ret
    exact ⟨rfl, Below.refl _ _⟩
  by_cases h2 : (1048576 : Int) < (len' : Int)
  · go_enter Tryd.func6, Tryd.ntmps6
    go_wp2_with fail
    go_ret
    exact ⟨rfl, Below.refl _ _⟩
  have h1' : len ≤ 1048576 := by omega
  have h2' : len' ≤ 1048576 := by omega
  clear hl hl'
  have hdl := macD_len l l'
  obtain ⟨G, hG⟩ : ∃ G, macD l l' = G := ⟨_, rfl⟩
  have HG := hide hG
  rw [hG] at hdl
  clear hG
  have hG20 : G.length ≤ 1048576 := by omega
  go_enter Tryd.func6, Tryd.ntmps6
  go_wp2_with fail
  refine (toByteS_any a len cap l _ h1' ((unhide HS))).mono ?_
  rintro e w1 ⟨rfl, hr1, hb1⟩
  have zr1 := hr1.lt
  have z1 := hb1.size
  have Ra_1 := hide (hr1)
  have B_1 := hide (hb1)
  clear hb1
  clear hr1
  go_wp2_with fail
  refine (toByteS_any a' len' cap' l' _ h2' (((unhide HS').keep (unhide B_1)).mono (unhide B_1).size)).mono ?_
  rintro e w2 ⟨rfl, hr2, hb2⟩
  have zr2 := hr2.lt
  have Ra_2 := hide ((unhide Ra_1).keep hb2)
  have B_2 := hide (bTr (unhide B_1) hb2)
  have z2 := hb2.size
  have Rb_2 := hide (hr2)
  clear Ra_1 B_1 hb2
  clear hr2
  have X1 := hide (slB_row (unhide Ra_2) (unhide Ra_2).lt)
  rw [← unhide hll] at X1
  have X2 := hide (slB_row (unhide Rb_2) (unhide Rb_2).lt)
  rw [← unhide hll'] at X2
  go_wp2_with fail
  refine (sMac_any _ _ len _ len' _ l l' _ h1' h2' (unhide X1) (unhide X2)).mono ?_
  rintro e w3 ⟨v3, D3, hD3, rfl, ho3, hb3⟩
  obtain rfl : D3 = G := by rw [unhide hD3, unhide HG]
  obtain ⟨aw, capw, rfl, hsw⟩ := own_sl ho3
  have Ra_3 := hide ((unhide Ra_2).keep hb3)
  have B_3 := hide (bTr (unhide B_2) hb3)
  have Rb_3 := hide ((unhide Rb_2).keep hb3)
  have z3 := hb3.size
  have Sw_3 := hide (hsw)
  clear Ra_2 B_2 Rb_2 hb3
  clear hsw ho3 hD3 X1 X2
  clear Ra_3 Rb_3
  go_wp2_with fail
  refine (toByteS_any a len cap l _ h1' (((unhide HS).keep (unhide B_3)).mono (unhide B_3).size)).mono ?_
  rintro e w4 ⟨rfl, hr4, hb4⟩
  have zr4 := hr4.lt
  have B_4 := hide (bTr (unhide B_3) hb4)
  have Sw_4 := hide ((unhide Sw_3).keep hb4)
  have z4 := hb4.size
  have Rx_4 := hide (hr4)
  clear B_3 Sw_3 hb4
  clear hr4
  go_wp2_with fail
  refine (toByteS_any a' len' cap' l' _ h2' (((unhide HS').keep (unhide B_4)).mono (unhide B_4).size)).mono ?_
  rintro e w5 ⟨rfl, hr5, hb5⟩
  have zr5 := hr5.lt
  have B_5 := hide (bTr (unhide B_4) hb5)
  have Sw_5 := hide ((unhide Sw_4).keep hb5)
  have Rx_5 := hide ((unhide Rx_4).keep hb5)
  have z5 := hb5.size
  have Ry_5 := hide (hr5)
  clear B_4 Sw_4 Rx_4 hb5
  clear hr5
  have X1 := hide (slB_row (unhide Rx_5) (unhide Rx_5).lt)
  rw [← unhide hll] at X1
  have X2 := hide (slB_row (unhide Ry_5) (unhide Ry_5).lt)
  rw [← unhide hll'] at X2
  go_wp2_with fail
  refine (iMac_any _ _ len _ len' _ l l' _ h1' h2' (unhide X1) (unhide X2) ((unhide HM).keepB (unhide B_5) h00)).mono ?_
  rintro e w6 ⟨v6, D6, hD6, rfl, ho6, hb6⟩
  obtain rfl : D6 = D3 := by rw [unhide hD6, unhide HG]
  obtain ⟨ag, capg, rfl, hsg⟩ := own_sl ho6
  clear hsg
  have B_6 := hide (bTr (unhide B_5) hb6)
  have Sw_6 := hide ((unhide Sw_5).keep hb6)
  have Rx_6 := hide ((unhide Rx_5).keep hb6)
  have Ry_6 := hide ((unhide Ry_5).keep hb6)
  have z6 := hb6.size
  have Og_6 := hide (ho6)
  clear B_5 Sw_5 Rx_5 Ry_5 hb6
  clear ho6 hD6 X1 X2
  have Y7 := hide (show SlB w6 w6.heap.size ag D6.length D6 by
    obtain ⟨a8, c8, e8, y8⟩ := own_sl (unhide Og_6)
    simp only [Value.slice.injEq, true_and] at e8
    rw [e8.1]; exact y8)
  go_wp2_with fail
  refine (eqByteS_any ag aw D6.length D6.length capg capw D6 D6 _ hG20 hG20 (unhide Y7) ((unhide Sw_6).mono (by omega))).mono ?_
  rintro e w7 ⟨rfl, hb7⟩
  rw [decide_eq_true (rfl : D6 = D6)]
  have B_7 := hide (bTr (unhide B_6) hb7)
  have Sw_7 := hide ((unhide Sw_6).keep hb7)
  have Rx_7 := hide ((unhide Rx_6).keep hb7)
  have Ry_7 := hide ((unhide Ry_6).keep hb7)
  have Og_7 := hide (own_keep (unhide Og_6) hb7)
  have z7 := hb7.size
  clear B_6 Sw_6 Rx_6 Ry_6 Og_6 hb7
  clear Y7
  go_wp2_with fail
  refine (toByteS_any a len cap l _ h1' (((unhide HS).keep (unhide B_7)).mono (unhide B_7).size)).mono ?_
  rintro e w8 ⟨rfl, hr8, hb8⟩
  have zr8 := hr8.lt
  have B_8 := hide (bTr (unhide B_7) hb8)
  have Sw_8 := hide ((unhide Sw_7).keep hb8)
  have Rx_8 := hide ((unhide Rx_7).keep hb8)
  have Ry_8 := hide ((unhide Ry_7).keep hb8)
  have Og_8 := hide (own_keep (unhide Og_7) hb8)
  have z8 := hb8.size
  have Rt_8 := hide (hr8)
  clear B_7 Sw_7 Rx_7 Ry_7 Og_7 hb8
  clear hr8
  have X1 := hide (slB_row (unhide Rx_8) (unhide Rx_8).lt)
  rw [← unhide hll] at X1
  have X2 := hide (slB_row (unhide Rt_8) (unhide Rt_8).lt)
  rw [← unhide hll] at X2
  go_wp2_with fail
  refine (eqByteS_any _ _ len len _ _ l l _ h1' h1' (unhide X1) (unhide X2)).mono ?_
  rintro e w9 ⟨rfl, hb9⟩
  rw [decide_eq_true (rfl : l = l)]
  have B_9 := hide (bTr (unhide B_8) hb9)
  have Sw_9 := hide ((unhide Sw_8).keep hb9)
  have Rx_9 := hide ((unhide Rx_8).keep hb9)
  have Ry_9 := hide ((unhide Ry_8).keep hb9)
  have Og_9 := hide (own_keep (unhide Og_8) hb9)
  have Rt_9 := hide ((unhide Rt_8).keep hb9)
  have z9 := hb9.size
  clear B_8 Sw_8 Rx_8 Ry_8 Og_8 Rt_8 hb9
  clear X1 X2
  clear Rt_9
  go_wp2_with fail
  refine (toByteS_any a' len' cap' l' _ h2' (((unhide HS').keep (unhide B_9)).mono (unhide B_9).size)).mono ?_
  rintro e w10 ⟨rfl, hr10, hb10⟩
  have zr10 := hr10.lt
  have B_10 := hide (bTr (unhide B_9) hb10)
  have Sw_10 := hide ((unhide Sw_9).keep hb10)
  have Rx_10 := hide ((unhide Rx_9).keep hb10)
  have Ry_10 := hide ((unhide Ry_9).keep hb10)
  have Og_10 := hide (own_keep (unhide Og_9) hb10)
  have z10 := hb10.size
  have Rt_10 := hide (hr10)
  clear B_9 Sw_9 Rx_9 Ry_9 Og_9 hb10
  clear hr10
  have X1 := hide (slB_row (unhide Ry_10) (unhide Ry_10).lt)
  rw [← unhide hll'] at X1
  have X2 := hide (slB_row (unhide Rt_10) (unhide Rt_10).lt)
  rw [← unhide hll'] at X2
  go_wp2_with fail
  refine (eqByteS_any _ _ len' len' _ _ l' l' _ h2' h2' (unhide X1) (unhide X2)).mono ?_
  rintro e w11 ⟨rfl, hb11⟩
  rw [decide_eq_true (rfl : l' = l')]
  have B_11 := hide (bTr (unhide B_10) hb11)
  have Sw_11 := hide ((unhide Sw_10).keep hb11)
  have Rx_11 := hide ((unhide Rx_10).keep hb11)
  have Ry_11 := hide ((unhide Ry_10).keep hb11)
  have Og_11 := hide (own_keep (unhide Og_10) hb11)
  have Rt_11 := hide ((unhide Rt_10).keep hb11)
  have z11 := hb11.size
  clear B_10 Sw_10 Rx_10 Ry_10 Og_10 Rt_10 hb11
  clear X1 X2
  clear Rt_11
  go_wp2_with fail
  refine (mark_more w3.heap.size len len (cellsOf l) 1 _ h1' (by omega) (by omega) (by rw [unhide hll]; simp [cellsOf]) (unhide Rx_11)).mono ?_
  rintro e w12 ⟨rfl, _, hb12⟩
  have B_12 := hide ((unhide B_11).trans (hb12.below (by omega) (by omega)))
  have Sw_12 := hide ((unhide Sw_11).keepB (hb12.below (by omega) (by omega)))
  have Ry_12 := hide (hb12.row (unhide Ry_11) (by omega))
  have Og_12 := hide (own_but (unhide Og_11) hb12 (by omega))
  have z12 := hb12.size
  clear B_11 Sw_11 Ry_11 Og_11 hb12
  clear Rx_11
  go_wp2_with fail
  refine (mark_more w4.heap.size len' len' (cellsOf l') _ _ h2' (by omega) (by omega) (by rw [unhide hll']; simp [cellsOf]) (unhide Ry_12)).mono ?_
  rintro e w13 ⟨rfl, _, hb13⟩
  have B_13 := hide ((unhide B_12).trans (hb13.below (by omega) (by omega)))
  have Sw_13 := hide ((unhide Sw_12).keepB (hb13.below (by omega) (by omega)))
  have Og_13 := hide (own_but (unhide Og_12) hb13 (by omega))
  have z13 := hb13.size
  clear B_12 Sw_12 Og_12 hb13
  clear Ry_12
  have hk0 : ¬ ((1 : Int) + (len : Int) + (len' : Int) < 0) := by omega
  have Y14 := hide (show SlB w13 w13.heap.size ag D6.length D6 by
    obtain ⟨a8, c8, e8, y8⟩ := own_sl (unhide Og_13)
    simp only [Value.slice.injEq, true_and] at e8
    rw [e8.1]; exact y8)
  go_wp2_with fail
  refine (eqByteS_any ag aw D6.length D6.length capg capw D6 D6 _ hG20 hG20 (unhide Y14) ((unhide Sw_13).mono (by omega))).mono ?_
  rintro e w14 ⟨rfl, hb14⟩
  rw [decide_eq_true (rfl : D6 = D6)]
  have B_14 := hide (bTr (unhide B_13) hb14)
  have Sw_14 := hide ((unhide Sw_13).keep hb14)
  have Og_14 := hide (own_keep (unhide Og_13) hb14)
  have z14 := hb14.size
  clear B_13 Sw_13 Og_13 hb14
  clear Y14
  go_wp2_with fail
  refine (mark_own _ D6 w5.heap.size _ hG20 (by omega) (unhide Og_14)).mono ?_
  rintro e w15 ⟨rfl, hM15, hb15⟩
  have B_15 := hide ((unhide B_14).trans (hb15.mono (by omega)))
  have Sw_15 := hide ((unhide Sw_14).keepB (hb15.mono (by omega)))
  have z15 := hb15.size
  have Mk_15 := hide (hM15)
  clear B_14 Sw_14 hb15
  clear Og_14 hM15
  go_wp2_with fail
  refine (held_own _ D6.length _ hG20 (unhide Mk_15)).mono ?_
  rintro e w16 ⟨rfl, rfl⟩
  go_wp2_with fail
  refine (toByteS_any a len cap l _ h1' (((unhide HS).keep (unhide B_15)).mono (unhide B_15).size)).mono ?_
  rintro e w16 ⟨rfl, hr16, hb16⟩
  have zr16 := hr16.lt
  have B_16 := hide (bTr (unhide B_15) hb16)
  have Sw_16 := hide ((unhide Sw_15).keep hb16)
  have Mk_16 := hide ((unhide Mk_15).keep hb16)
  have z16 := hb16.size
  have Rx_16 := hide (hr16)
  clear B_15 Sw_15 Mk_15 hb16
  clear hr16
  go_wp2_with fail
  refine (toByteS_any a' len' cap' l' _ h2' (((unhide HS').keep (unhide B_16)).mono (unhide B_16).size)).mono ?_
  rintro e w17 ⟨rfl, hr17, hb17⟩
  have zr17 := hr17.lt
  have B_17 := hide (bTr (unhide B_16) hb17)
  have Sw_17 := hide ((unhide Sw_16).keep hb17)
  have Mk_17 := hide ((unhide Mk_16).keep hb17)
  have Rx_17 := hide ((unhide Rx_16).keep hb17)
  have z17 := hb17.size
  have Ry_17 := hide (hr17)
  clear B_16 Sw_16 Mk_16 Rx_16 hb17
  clear hr17
  have X1 := hide (slB_row (unhide Rx_17) (unhide Rx_17).lt)
  rw [← unhide hll] at X1
  have X2 := hide (slB_row (unhide Ry_17) (unhide Ry_17).lt)
  rw [← unhide hll'] at X2
  go_wp2_with fail
  refine (iMac_any _ _ len _ len' _ l l' _ h1' h2' (unhide X1) (unhide X2) ((unhide HM).keepB (unhide B_17) h00)).mono ?_
  rintro e w18 ⟨v18, D18, hD18, rfl, ho18, hb18⟩
  obtain rfl : D18 = D6 := by rw [unhide hD18, unhide HG]
  obtain ⟨ah, caph, rfl, hsh⟩ := own_sl ho18
  have B_18 := hide (bTr (unhide B_17) hb18)
  have Sw_18 := hide ((unhide Sw_17).keep hb18)
  have Mk_18 := hide ((unhide Mk_17).keep hb18)
  have Rx_18 := hide ((unhide Rx_17).keep hb18)
  have Ry_18 := hide ((unhide Ry_17).keep hb18)
  have z18 := hb18.size
  have Sh_18 := hide (hsh)
  clear B_17 Sw_17 Mk_17 Rx_17 Ry_17 hb18
  clear ho18 hD18 X1 X2 hsh
  go_wp2_with fail
  refine (eqByteS_any ah aw D18.length D18.length caph capw D18 D18 _ hG20 hG20 (unhide Sh_18) ((unhide Sw_18).mono (by omega))).mono ?_
  rintro e w19 ⟨rfl, hb19⟩
  rw [decide_eq_true (rfl : D18 = D18)]
  have B_19 := hide (bTr (unhide B_18) hb19)
  have Sw_19 := hide ((unhide Sw_18).keep hb19)
  have Mk_19 := hide ((unhide Mk_18).keep hb19)
  have Rx_19 := hide ((unhide Rx_18).keep hb19)
  have Ry_19 := hide ((unhide Ry_18).keep hb19)
  have Sh_19 := hide ((unhide Sh_18).keep hb19)
  have z19 := hb19.size
  clear B_18 Sw_18 Mk_18 Rx_18 Ry_18 Sh_18 hb19
  go_wp2_with fail
  refine (held_own _ D18.length _ hG20 (unhide Mk_19)).mono ?_
  rintro e w20 ⟨rfl, rfl⟩
  go_wp2_with fail
  go_ret
  exact ⟨rfl, (unhide B_19)⟩

set_option maxRecDepth 100000 in
theorem lifted (os : Os) (started : os.Started) (H : Type) (enc : TypeId × Value → H) :
    ReturnsInHanded {} Tryd.checked os 6 .any (fun w args => (Rows.fnExactMacSpec.pre enc Tryd.prog Tryd.f6 [] false w args ∧ laidMetH Tryd.prog [("loop.example/g00036/impl.multipliers", Rows.laid_loop_example_g00036_impl_multipliers)] w) ∧ sizedMet enc Tryd.prog Tryd.f6 (OpenSpec.ofChange Rows.fnExactMacSpec) false w args)
      (Rows.fnExactMacSpec.post enc Tryd.prog Tryd.f6 false true false false) := by
  refine returnsInHanded_of_change_and (C := Tryd.checked) (X := fun w _ => laidMetH Tryd.prog [("loop.example/g00036/impl.multipliers", Rows.laid_loop_example_g00036_impl_multipliers)] w) (fun _ _ _ hh h => h.of_heap hh) own started (by kernel_rfl) Tryd.func6
    (ChangeSpec.witness_shaped (enc := enc) (C := Tryd.checked) (os := os) (X := fun w _ => laidMetH Tryd.prog [("loop.example/g00036/impl.multipliers", Rows.laid_loop_example_g00036_impl_multipliers)] w) false (World.doorLaid Tryd.prog 400 os) #[.slice none 0 0, .slice none 0 0] 8 rfl (World.shaped_of_RefB (by kernel_rfl) (by kernel_rfl)) (by kernel_rfl) (by kernel_rfl) (by kernel_rfl) (door_met os _)) ?_
  intro W base args ds gs before hval0 hW _ _ hL _
  have hval : ∀ (j : Nat) t v, Tryd.f6.params[j]? = some t → args[j]? = some v → Value.okWide Tryd.prog W .any base t v := hval0
  have hW' := hW
  obtain ⟨p, q, hA0, hV0, rfl, hfz, hnd⟩ := hW
  have hA : DataW.TrodAll enc Tryd.prog W 0 (fun _ => true) true Tryd.f6.params.toList args.toList ds p := hA0
  have hV : DataW.TrodVars enc Tryd.prog W (fun _ => true) ["loop.example/g00036/impl.multipliers"] gs q := hV0
  rw [Tryd.params6] at hA hval
  obtain ⟨v0, vs0, d0, ds0, p0, q0, hargs, rfl, rfl, h0, r0⟩ := trodAll_cons hA
  obtain ⟨v1, vs1, d1, ds1, p1, q1, rfl, rfl, rfl, h1, r1⟩ := trodAll_cons r0
  obtain ⟨rfl, rfl, rfl⟩ := trodAll_nil r1
  obtain rfl : args = #[v0, v1] := by cases args; simp_all
  obtain ⟨g, t, cs, fuel, d, p', rfl, hg, ht, hvar, hd, rfl⟩ := trodVars_one hV
  obtain rfl := Option.some.inj (gMul.symm.trans hg)
  obtain rfl := Option.some.inj (tMul.symm.trans ht)
  obtain rfl : cs = cellsM := Option.some.inj (hvar.symm.trans (cells_of_laid hL))
  obtain ⟨rfl, rfl⟩ := DataW.Trod.unique (v := .agg cellsM) ⟨fuel, hd⟩ ⟨3, reads_mul enc W _⟩
  obtain ⟨a0, len0, cap0, rfl⟩ := okWide_slice Tryd.underlying22 (hval 0 22 v0 rfl rfl)
  have k0 := h0
  have lt0 : ∀ x ∈ p0, x.block < W.heap.size := by obtain ⟨m, hm⟩ := k0; exact DataW.trod_lt m _ _ _ hm
  obtain ⟨z0, w0⟩ : ∃ zs, IsRow .u8 W a0 len0 cap0 zs := by
    obtain ⟨fuel, hf⟩ := h0
    rcases open_ints Tryd.underlying22 Tryd.underlying5 (by kernel_rfl) hf with ⟨hcs, _⟩ | ⟨x, l, c, zs, hcs, _, hl, hm, hz, _, hcell, hwz⟩
    · simp [Value.cells] at hcs
      obtain ⟨rfl, rfl, rfl⟩ := hcs
      exact ⟨[], .inl ⟨rfl, rfl, rfl, rfl⟩⟩
    · simp [Value.cells] at hcs
      obtain ⟨rfl, rfl, rfl⟩ := hcs
      exact ⟨zs, .inr ⟨_, rfl, hl, hm, by simpa using hz, hcell, hwz⟩⟩
  obtain ⟨a1, len1, cap1, rfl⟩ := okWide_slice Tryd.underlying22 (hval 1 22 v1 rfl rfl)
  have k1 := h1
  have lt1 : ∀ x ∈ p1, x.block < W.heap.size := by obtain ⟨m, hm⟩ := k1; exact DataW.trod_lt m _ _ _ hm
  obtain ⟨z1, w1⟩ : ∃ zs, IsRow .u8 W a1 len1 cap1 zs := by
    obtain ⟨fuel, hf⟩ := h1
    rcases open_ints Tryd.underlying22 Tryd.underlying5 (by kernel_rfl) hf with ⟨hcs, _⟩ | ⟨x, l, c, zs, hcs, _, hl, hm, hz, _, hcell, hwz⟩
    · simp [Value.cells] at hcs
      obtain ⟨rfl, rfl, rfl⟩ := hcs
      exact ⟨[], .inl ⟨rfl, rfl, rfl, rfl⟩⟩
    · simp [Value.cells] at hcs
      obtain ⟨rfl, rfl, rfl⟩ := hcs
      exact ⟨zs, .inr ⟨_, rfl, hl, hm, by simpa using hz, hcell, hwz⟩⟩
  clear hA0 hV0 hval0
  have hM := mults_of (cells_of_laid hL)
  refine (walk a0 len0 cap0 z0 a1 len1 cap1 z1 W w0 w1 hM).mono fun e W' ⟨he, bel⟩ => ?_
  subst he
  exact ⟨_, rfl, _, _, _, [], _, _, hW', trodAll_mk1 (shut_bool Tryd.underlying4 _), (trodAll_cons_mk (Below.trod laidOut (by kernel_rfl) (of_decide_eq_true (by kernel_rfl)) k0 bel lt0) (trodAll_cons_mk (Below.trod laidOut (by kernel_rfl) (of_decide_eq_true (by kernel_rfl)) k1 bel lt1) trodAll_mk0)), vars_kept enc (cells_of_laid hL) hM.1 bel, bel.frame _, fun h => by cases h⟩

theorem row : Rows.FnExactMacSaid :=
  OpenClaim.holds_of_wide 6 Tryd.f6 rfl rfl rfl rfl rfl rfl rfl ⟨rfl, rfl, rfl, rfl, rfl⟩ rfl rfl rfl rfl rfl (by kernel_rfl) Tryd.func6 (by kernel_rfl)
    (of_decide_eq_true (by kernel_rfl)) (by unfold Func.isWrapper; first | (rw [if_pos (by decide +kernel)]; kernel_rfl) | (rw [if_neg (by decide +kernel)]; exact ⟨rfl, rfl⟩))
    (fun os started H enc _ => lifted os started H enc)
theorem card : Rows.FnExactMacCardSaid :=
  Claim7.holds_tied_plain_at .later [] [.data] true (true, "4d4ec08cc399d53a7ca90ccacaa052f760e0b328250ac90dfbc256b2473df321") false
    row (fun _ h => by cases h) (by kernel_rfl) (fun _ h => by cases h) fnExactMac_row_tie rfl ⟨rfl, rfl⟩ (by kernel_rfl) rfl
    (fun f fn hf hfn => by
      obtain rfl : f = 6 := Option.some.inj ((show Tryd.prog.funcNamed "loop.example/g00036/laws.FnExactMac" = some 6 by kernel_rfl).symm.trans hf) |>.symm
      obtain rfl : fn = Tryd.f6 := (Option.some.inj (Tryd.func6.symm.trans hfn)).symm
      exact ⟨by kernel_rfl, fun j t ht => by
        rw [Tryd.params6] at ht
        have hm : t ∈ [22, 22] := by simpa using Array.mem_of_getElem? ht
        have hall : ([22, 22].all fun u => !Tryd.prog.wantsStandIn u) = true := by kernel_rfl
        exact (show Tryd.prog.wantsStandIn t = false by simpa using List.all_eq_true.1 hall t hm)⟩)
    (by kernel_rfl)
end Go.Proofs.YtcgodelkanifbaaDoor.fnExactMac
namespace Go.Proofs.YtcgodelkanifbaaDoor
theorem fnExactMac_holds : Rows.FnExactMacCardSaid := fnExactMac.card
end Go.Proofs.YtcgodelkanifbaaDoor
