/- The row and the card of laws.FnExactMakeCap: its walk, then the row's step. -/
import Derived.Test.YtfnjgakjainljaaDoorRows
import Derived.Test.YtfnjgakjainljaaDoorCards
import Derived.Test.YtfnjgakjainljaaDoorTie
import Derived.Test.YtfnjgakjainljaaDoorDLawKit
import Derived.Test.YtfnjgakjainljaaDoorKMd
import Derived.Test.YtfnjgakjainljaaDoorDIn
import Derived.WalkKit
import Derived.ProofKit
import Derived.OpenShut
import Derived.ShutString
import Derived.ChangeOld
import Derived.Below
import Derived.Lib.SmallJoins
import Derived.LaidMore
import Derived.ChangeVars
import Derived.SevenTiedAt
import Derived.Stop.Joined
namespace Go.Proofs.YtfnjgakjainljaaDoor.D.fnExactMakeCap
open Go.ChangeShapes Go.WideShapes Go.ChangeAt Go.RowKit Go.Joins
set_option linter.unusedVariables false

set_option maxHeartbeats 4000000 in
theorem walk (a : Option Addr) (len cap : Nat) (zs : List Int) (p : ByteArray) (w : World) (hr : IsRow .u8 w a len cap zs) (hp : p.size ≤ maxLen) (hM : Mults w) :
    Calls Tryd.prog 3 #[.slice a len cap, .string p] w fun e w' => e = .returned (.bool true) ∧ Below w.heap.size w w' := by
  obtain ⟨⟨l, hs⟩, hc, hm⟩ := bytes_in hr
  clear hr
  have hl : len ≤ maxLen := Nat.le_trans hc hm
  unfold maxLen at hl hp
  have HS := hide hs
  have hll := hide hs.1
  have HM := hide hM
  have h00 := hM.1
  clear hs hc hm hM
  by_cases h2 : (1048576 : Int) < (len : Int)
  · go_enter Tryd.func3, Tryd.ntmps3
    go_wp2_with fail
    go_ret
    exact ⟨rfl, Below.refl _ _⟩
  by_cases h1 : (1048576 : Int) < (p.size : Int)
  · go_enter Tryd.func3, Tryd.ntmps3
    go_wp2_with fail
    go_ret
    exact ⟨rfl, Below.refl _ _⟩
  have hp' : p.size ≤ 1048576 := by omega
  have h1' : len ≤ 1048576 := by omega
  clear hl hp
  have hdl := capG_len len l p
  obtain ⟨G, hG⟩ : ∃ G, capG len l p = G := ⟨_, rfl⟩
  have HG := hide hG
  rw [hG] at hdl
  have hI := capI_size len p hp'
  have qs := hide (fun ak ck w hs => sMakeCap_any ak len ck l p w h1' hp' hs)
  have qi := hide (fun ak ck w hs hM => iMakeCap_any ak len ck l p w h1' hp' hs hM)
  unfold CapRet at qs qi
  obtain ⟨I, hII⟩ : ∃ I, capI len p = I := ⟨_, rfl⟩
  rw [hII] at qs qi hI
  clear hG hII
  have hG20 : G.length ≤ 1048576 := by omega
  go_enter Tryd.func3, Tryd.ntmps3
  go_wp2_with fail
  refine (toByteS_any a len cap l _ h1' ((unhide HS))).mono ?_
  rintro e w1 ⟨rfl, hr1, hb1⟩
  have zr1 := hr1.lt
  have z1 := hb1.size
  have Ra_1 := hide (hr1)
  have B_1 := hide (hb1)
  clear hb1
  clear hr1
  have X1 := hide (slB_row (unhide Ra_1) (unhide Ra_1).lt)
  rw [← unhide hll] at X1
  go_wp2_with fail
  refine (unhide qs _ _ _ (unhide X1)).mono ?_
  rintro e w2 ⟨⟨v2, D2, hD2, rfl, ho2⟩, hb2⟩
  obtain rfl : D2 = G := by rw [unhide hD2, unhide HG]
  obtain ⟨aw, capw, rfl, hsw⟩ := own_sl ho2
  have Ra_2 := hide ((unhide Ra_1).keep hb2)
  have B_2 := hide (bTr (unhide B_1) hb2)
  have z2 := hb2.size
  have Sw_2 := hide (hsw)
  clear Ra_1 B_1 hb2
  clear hsw ho2 hD2 X1
  clear Ra_2
  obtain ⟨w3, hW⟩ : ∃ W, W = w2.alloc (.cells #[.string I, .slice none 0 0, .slice aw D2.length capw] 25) := ⟨_, rfl⟩
  have hb3 : Below w2.heap.size w2 w3 := by rw [hW]; exact bAl (Below.refl _ _) _
  have B_3 := hide (bTr (unhide B_2) hb3)
  have Sw_3 := hide ((unhide Sw_2).keep hb3)
  have Xw_3 := hide (show RowIs w3 w2.heap.size #[.string I, .slice none 0 0, .slice aw D2.length capw] 25 by rw [hW]; exact RowIs.new _ _ _)
  have zx3 := (unhide Xw_3).lt
  have HW3 := hide hW.symm
  have z3 := hb3.size
  clear hW B_2 Sw_2 hb3
  go_wp2_with fail
  rw [unhide HW3]
  refine (toByteS_any a len cap l _ h1' (((unhide HS).keep (unhide B_3)).mono (unhide B_3).size)).mono ?_
  rintro e w4 ⟨rfl, hr4, hb4⟩
  have zr4 := hr4.lt
  have B_4 := hide (bTr (unhide B_3) hb4)
  have Sw_4 := hide ((unhide Sw_3).keep hb4)
  have Xw_4 := hide ((unhide Xw_3).keep hb4)
  have z4 := hb4.size
  have Rx_4 := hide (hr4)
  clear B_3 Sw_3 Xw_3 hb4
  clear hr4
  have X1 := hide (slB_row (unhide Rx_4) (unhide Rx_4).lt)
  rw [← unhide hll] at X1
  go_wp2_with fail
  refine (unhide qi _ _ _ (unhide X1) ((unhide HM).keepB (unhide B_4) h00)).mono ?_
  rintro e w5 ⟨⟨v5, D5, hD5, rfl, ho5⟩, hb5⟩
  obtain rfl : D5 = D2 := by rw [unhide hD5, unhide HG]
  obtain ⟨ag, capg, rfl, hsg⟩ := own_sl ho5
  clear hsg
  have B_5 := hide (bTr (unhide B_4) hb5)
  have Sw_5 := hide ((unhide Sw_4).keep hb5)
  have Xw_5 := hide ((unhide Xw_4).keep hb5)
  have Rx_5 := hide ((unhide Rx_4).keep hb5)
  have z5 := hb5.size
  have Og_5 := hide (ho5)
  clear B_4 Sw_4 Xw_4 Rx_4 hb5
  clear ho5 hD5 X1
  obtain ⟨w6, hW⟩ : ∃ W, W = w5.alloc (.cells #[.string I, .slice none 0 0, .slice ag D5.length capg] 25) := ⟨_, rfl⟩
  have hb6 : Below w5.heap.size w5 w6 := by rw [hW]; exact bAl (Below.refl _ _) _
  have B_6 := hide (bTr (unhide B_5) hb6)
  have Sw_6 := hide ((unhide Sw_5).keep hb6)
  have Xw_6 := hide ((unhide Xw_5).keep hb6)
  have Rx_6 := hide ((unhide Rx_5).keep hb6)
  have Og_6 := hide (own_keep (unhide Og_5) hb6)
  have Xg_6 := hide (show RowIs w6 w5.heap.size #[.string I, .slice none 0 0, .slice ag D5.length capg] 25 by rw [hW]; exact RowIs.new _ _ _)
  have zx6 := (unhide Xg_6).lt
  have HW6 := hide hW.symm
  have z6 := hb6.size
  clear hW B_5 Sw_5 Xw_5 Rx_5 Og_5 hb6
  have Y7 := hide (show SlB w6 w6.heap.size ag D5.length D5 by
    obtain ⟨a8, c8, e8, y8⟩ := own_sl (unhide Og_6)
    simp only [Value.slice.injEq, true_and] at e8
    rw [e8.1]; exact y8)
  have cg0 := (unhide Xg_6).at (o := 0) (v := .string I) rfl
  have cg1 := (unhide Xg_6).at (o := 1) (v := .slice none 0 0) rfl
  have cg2 := (unhide Xg_6).at (o := 2) (v := .slice ag D5.length capg) rfl
  rw [← unhide HW6] at cg0 cg1 cg2
  have cw0 := (unhide Xw_6).at (o := 0) (v := .string I) rfl
  have cw1 := (unhide Xw_6).at (o := 1) (v := .slice none 0 0) rfl
  have cw2 := (unhide Xw_6).at (o := 2) (v := .slice aw D5.length capw) rfl
  rw [← unhide HW6] at cw0 cw1 cw2
  go_wp2_with fail
  rw [unhide HW6]
  refine (eqCap_any I ag aw D5.length D5.length capg capw D5 _ hG20 hG20 (unhide Y7) ((unhide Sw_6).mono (by omega))).mono ?_
  rintro e w7 ⟨rfl, hb7⟩
  have B_7 := hide (bTr (unhide B_6) hb7)
  have Sw_7 := hide ((unhide Sw_6).keep hb7)
  have Xw_7 := hide ((unhide Xw_6).keep hb7)
  have Rx_7 := hide ((unhide Rx_6).keep hb7)
  have Og_7 := hide (own_keep (unhide Og_6) hb7)
  have Xg_7 := hide ((unhide Xg_6).keep hb7)
  have z7 := hb7.size
  clear B_6 Sw_6 Xw_6 Rx_6 Og_6 Xg_6 hb7
  clear Y7
  clear cg0 cg1 cg2
  clear cw0 cw1 cw2
  go_wp2_with fail
  refine (toByteS_any a len cap l _ h1' (((unhide HS).keep (unhide B_7)).mono (unhide B_7).size)).mono ?_
  rintro e w8 ⟨rfl, hr8, hb8⟩
  have zr8 := hr8.lt
  have B_8 := hide (bTr (unhide B_7) hb8)
  have Sw_8 := hide ((unhide Sw_7).keep hb8)
  have Xw_8 := hide ((unhide Xw_7).keep hb8)
  have Rx_8 := hide ((unhide Rx_7).keep hb8)
  have Og_8 := hide (own_keep (unhide Og_7) hb8)
  have Xg_8 := hide ((unhide Xg_7).keep hb8)
  have z8 := hb8.size
  have Rt_8 := hide (hr8)
  clear B_7 Sw_7 Xw_7 Rx_7 Og_7 Xg_7 hb8
  clear hr8
  have X1 := hide (slB_row (unhide Rx_8) (unhide Rx_8).lt)
  rw [← unhide hll] at X1
  have X2 := hide (slB_row (unhide Rt_8) (unhide Rt_8).lt)
  rw [← unhide hll] at X2
  go_wp2_with fail
  refine (eqByteS_any _ _ len len _ _ l l _ h1' h1' (unhide X1) (unhide X2)).mono ?_
  rintro e w9 ⟨rfl, hb9⟩
  rw [decide_eq_true (rfl : l = l)]
  have B_9 := hide (bTr (unhide B_8) hb9)
  have Sw_9 := hide ((unhide Sw_8).keep hb9)
  have Xw_9 := hide ((unhide Xw_8).keep hb9)
  have Rx_9 := hide ((unhide Rx_8).keep hb9)
  have Og_9 := hide (own_keep (unhide Og_8) hb9)
  have Xg_9 := hide ((unhide Xg_8).keep hb9)
  have Rt_9 := hide ((unhide Rt_8).keep hb9)
  have z9 := hb9.size
  clear B_8 Sw_8 Xw_8 Rx_8 Og_8 Xg_8 Rt_8 hb9
  clear X1 X2
  clear Rt_9
  go_wp2_with fail
  refine (mark_any w3.heap.size len len (cellsOf l) 1 _ h1' (by omega) (by omega) (by rw [unhide hll]; simp [cellsOf]) (unhide Rx_9)).mono ?_
  rintro e w10 ⟨rfl, _, hb10⟩
  have B_10 := hide ((unhide B_9).trans (hb10.below (by omega) (by omega)))
  have Sw_10 := hide ((unhide Sw_9).keepB (hb10.below (by omega) (by omega)))
  have Xw_10 := hide (hb10.row (unhide Xw_9) (by omega))
  have Og_10 := hide (own_but (unhide Og_9) hb10 (by omega))
  have Xg_10 := hide (hb10.row (unhide Xg_9) (by omega))
  have z10 := hb10.size
  clear B_9 Sw_9 Xw_9 Og_9 Xg_9 hb10
  clear Rx_9
  have hk0 : ¬ ((1 : Int) + (len : Int) < 0) := by omega
  have Y11 := hide (show SlB w10 w10.heap.size ag D5.length D5 by
    obtain ⟨a8, c8, e8, y8⟩ := own_sl (unhide Og_10)
    simp only [Value.slice.injEq, true_and] at e8
    rw [e8.1]; exact y8)
  have cg0 := (unhide Xg_10).at (o := 0) (v := .string I) rfl
  have cg1 := (unhide Xg_10).at (o := 1) (v := .slice none 0 0) rfl
  have cg2 := (unhide Xg_10).at (o := 2) (v := .slice ag D5.length capg) rfl
  have cw0 := (unhide Xw_10).at (o := 0) (v := .string I) rfl
  have cw1 := (unhide Xw_10).at (o := 1) (v := .slice none 0 0) rfl
  have cw2 := (unhide Xw_10).at (o := 2) (v := .slice aw D5.length capw) rfl
  go_wp2_with fail
  refine (eqCap_any I ag aw D5.length D5.length capg capw D5 _ hG20 hG20 (unhide Y11) ((unhide Sw_10).mono (by omega))).mono ?_
  rintro e w11 ⟨rfl, hb11⟩
  have B_11 := hide (bTr (unhide B_10) hb11)
  have Sw_11 := hide ((unhide Sw_10).keep hb11)
  have Xw_11 := hide ((unhide Xw_10).keep hb11)
  have Og_11 := hide (own_keep (unhide Og_10) hb11)
  have Xg_11 := hide ((unhide Xg_10).keep hb11)
  have z11 := hb11.size
  clear B_10 Sw_10 Xw_10 Og_10 Xg_10 hb11
  clear Y11
  clear cg0 cg1 cg2
  clear cw0 cw1 cw2
  have cg0 := (unhide Xg_11).at (o := 0) (v := .string I) rfl
  have cg1 := (unhide Xg_11).at (o := 1) (v := .slice none 0 0) rfl
  have cg2 := (unhide Xg_11).at (o := 2) (v := .slice ag D5.length capg) rfl
  have hne := own_ne (unhide Og_11)
  go_wp2_with fail
  refine (markCap_any I _ D5 w4.heap.size _ hG20 (by omega) (unhide Og_11)).mono ?_
  rintro e w12 ⟨rfl, hM12, hb12, hX⟩
  have B_12 := hide ((unhide B_11).trans (hb12.mono (by omega)))
  have Sw_12 := hide ((unhide Sw_11).keepB (hb12.mono (by omega)))
  have Xw_12 := hide (hX _ _ _ (unhide Xw_11).lt (hne _ _ _ (unhide Xw_11) (by decide)) (unhide Xw_11))
  have Xg_12 := hide (hX _ _ _ (unhide Xg_11).lt (hne _ _ _ (unhide Xg_11) (by decide)) (unhide Xg_11))
  have z12 := hb12.size
  have Mk_12 := hide (hM12)
  clear B_11 Sw_11 Xw_11 Xg_11 hb12
  clear Og_11 hM12 hX hne
  clear cg0 cg1 cg2
  have cg0 := (unhide Xg_12).at (o := 0) (v := .string I) rfl
  have cg1 := (unhide Xg_12).at (o := 1) (v := .slice none 0 0) rfl
  have cg2 := (unhide Xg_12).at (o := 2) (v := .slice ag D5.length capg) rfl
  go_wp2_with fail
  refine (heldCap_any I _ D5.length _ hG20 (unhide Mk_12) ⟨_, _, rfl⟩).mono ?_
  rintro e w13 ⟨rfl, hb13⟩
  have B_13 := hide (bTr (unhide B_12) hb13)
  have Sw_13 := hide ((unhide Sw_12).keep hb13)
  have Xw_13 := hide ((unhide Xw_12).keep hb13)
  have Xg_13 := hide ((unhide Xg_12).keep hb13)
  have Mk_13 := hide ((unhide Mk_12).keep hb13)
  have z13 := hb13.size
  clear B_12 Sw_12 Xw_12 Xg_12 Mk_12 hb13
  clear cg0 cg1 cg2
  go_wp2_with fail
  refine (toByteS_any a len cap l _ h1' (((unhide HS).keep (unhide B_13)).mono (unhide B_13).size)).mono ?_
  rintro e w14 ⟨rfl, hr14, hb14⟩
  have zr14 := hr14.lt
  have B_14 := hide (bTr (unhide B_13) hb14)
  have Sw_14 := hide ((unhide Sw_13).keep hb14)
  have Xw_14 := hide ((unhide Xw_13).keep hb14)
  have Xg_14 := hide ((unhide Xg_13).keep hb14)
  have Mk_14 := hide ((unhide Mk_13).keep hb14)
  have z14 := hb14.size
  have Rx_14 := hide (hr14)
  clear B_13 Sw_13 Xw_13 Xg_13 Mk_13 hb14
  clear hr14
  have X1 := hide (slB_row (unhide Rx_14) (unhide Rx_14).lt)
  rw [← unhide hll] at X1
  go_wp2_with fail
  refine (unhide qi _ _ _ (unhide X1) ((unhide HM).keepB (unhide B_14) h00)).mono ?_
  rintro e w15 ⟨⟨v15, D15, hD15, rfl, ho15⟩, hb15⟩
  obtain rfl : D15 = D5 := by rw [unhide hD15, unhide HG]
  obtain ⟨ah, caph, rfl, hsh⟩ := own_sl ho15
  have B_15 := hide (bTr (unhide B_14) hb15)
  have Sw_15 := hide ((unhide Sw_14).keep hb15)
  have Xw_15 := hide ((unhide Xw_14).keep hb15)
  have Xg_15 := hide ((unhide Xg_14).keep hb15)
  have Mk_15 := hide ((unhide Mk_14).keep hb15)
  have Rx_15 := hide ((unhide Rx_14).keep hb15)
  have z15 := hb15.size
  have Sh_15 := hide (hsh)
  clear B_14 Sw_14 Xw_14 Xg_14 Mk_14 Rx_14 hb15
  clear ho15 hD15 X1 hsh
  obtain ⟨w16, hW⟩ : ∃ W, W = w15.alloc (.cells #[.string I, .slice none 0 0, .slice ah D15.length caph] 25) := ⟨_, rfl⟩
  have hb16 : Below w15.heap.size w15 w16 := by rw [hW]; exact bAl (Below.refl _ _) _
  have B_16 := hide (bTr (unhide B_15) hb16)
  have Sw_16 := hide ((unhide Sw_15).keep hb16)
  have Xw_16 := hide ((unhide Xw_15).keep hb16)
  have Xg_16 := hide ((unhide Xg_15).keep hb16)
  have Mk_16 := hide ((unhide Mk_15).keep hb16)
  have Rx_16 := hide ((unhide Rx_15).keep hb16)
  have Sh_16 := hide ((unhide Sh_15).keep hb16)
  have Xh_16 := hide (show RowIs w16 w15.heap.size #[.string I, .slice none 0 0, .slice ah D15.length caph] 25 by rw [hW]; exact RowIs.new _ _ _)
  have zx16 := (unhide Xh_16).lt
  have HW16 := hide hW.symm
  have z16 := hb16.size
  clear hW B_15 Sw_15 Xw_15 Xg_15 Mk_15 Rx_15 Sh_15 hb16
  have ch0 := (unhide Xh_16).at (o := 0) (v := .string I) rfl
  have ch1 := (unhide Xh_16).at (o := 1) (v := .slice none 0 0) rfl
  have ch2 := (unhide Xh_16).at (o := 2) (v := .slice ah D15.length caph) rfl
  rw [← unhide HW16] at ch0 ch1 ch2
  have cw0 := (unhide Xw_16).at (o := 0) (v := .string I) rfl
  have cw1 := (unhide Xw_16).at (o := 1) (v := .slice none 0 0) rfl
  have cw2 := (unhide Xw_16).at (o := 2) (v := .slice aw D15.length capw) rfl
  rw [← unhide HW16] at cw0 cw1 cw2
  go_wp2_with fail
  rw [unhide HW16]
  refine (eqCap_any I ah aw D15.length D15.length caph capw D15 _ hG20 hG20 ((unhide Sh_16).mono (by omega)) ((unhide Sw_16).mono (by omega))).mono ?_
  rintro e w17 ⟨rfl, hb17⟩
  have B_17 := hide (bTr (unhide B_16) hb17)
  have Sw_17 := hide ((unhide Sw_16).keep hb17)
  have Xw_17 := hide ((unhide Xw_16).keep hb17)
  have Xg_17 := hide ((unhide Xg_16).keep hb17)
  have Mk_17 := hide ((unhide Mk_16).keep hb17)
  have Rx_17 := hide ((unhide Rx_16).keep hb17)
  have Sh_17 := hide ((unhide Sh_16).keep hb17)
  have Xh_17 := hide ((unhide Xh_16).keep hb17)
  have z17 := hb17.size
  clear B_16 Sw_16 Xw_16 Xg_16 Mk_16 Rx_16 Sh_16 Xh_16 hb17
  clear ch0 ch1 ch2
  clear cw0 cw1 cw2
  have cg0 := (unhide Xg_17).at (o := 0) (v := .string I) rfl
  have cg1 := (unhide Xg_17).at (o := 1) (v := .slice none 0 0) rfl
  have cg2 := (unhide Xg_17).at (o := 2) (v := .slice ag D15.length capg) rfl
  go_wp2_with fail
  refine (heldCap_any I _ D15.length _ hG20 (unhide Mk_17) ⟨_, _, rfl⟩).mono ?_
  rintro e w18 ⟨rfl, hb18⟩
  have B_18 := hide (bTr (unhide B_17) hb18)
  have Sw_18 := hide ((unhide Sw_17).keep hb18)
  have Xw_18 := hide ((unhide Xw_17).keep hb18)
  have Xg_18 := hide ((unhide Xg_17).keep hb18)
  have Mk_18 := hide ((unhide Mk_17).keep hb18)
  have Rx_18 := hide ((unhide Rx_17).keep hb18)
  have Sh_18 := hide ((unhide Sh_17).keep hb18)
  have Xh_18 := hide ((unhide Xh_17).keep hb18)
  have z18 := hb18.size
  clear B_17 Sw_17 Xw_17 Xg_17 Mk_17 Rx_17 Sh_17 Xh_17 hb18
  go_wp2_with fail
  go_ret
  exact ⟨rfl, (unhide B_18)⟩

set_option maxRecDepth 100000 in
theorem lifted (os : Os) (started : os.Started) (H : Type) (enc : TypeId × Value → H) :
    ReturnsInHanded {} Tryd.checked os 3 .any (fun w args => (Rows.fnExactMakeCapSpec.pre enc Tryd.prog Tryd.f3 [] false w args ∧ laidMetH Tryd.prog [("loop.example/g00036/impl.multipliers", Rows.laid_loop_example_g00036_impl_multipliers)] w) ∧ sizedMet enc Tryd.prog Tryd.f3 (OpenSpec.ofChange Rows.fnExactMakeCapSpec) false w args)
      (Rows.fnExactMakeCapSpec.post enc Tryd.prog Tryd.f3 false true false false) := by
  refine returnsInHanded_of_change_and (C := Tryd.checked) (X := fun w _ => laidMetH Tryd.prog [("loop.example/g00036/impl.multipliers", Rows.laid_loop_example_g00036_impl_multipliers)] w) (fun _ _ _ hh h => h.of_heap hh) own started (by kernel_rfl) Tryd.func3
    (ChangeSpec.witness_shaped (enc := enc) (C := Tryd.checked) (os := os) (X := fun w _ => laidMetH Tryd.prog [("loop.example/g00036/impl.multipliers", Rows.laid_loop_example_g00036_impl_multipliers)] w) false (World.doorLaid Tryd.prog 400 os) #[.slice none 0 0, .string ByteArray.empty] 8 rfl (World.shaped_of_RefB (by kernel_rfl) (by kernel_rfl)) (by kernel_rfl) (by kernel_rfl) (by kernel_rfl) (door_met os _)) ?_
  intro W base args ds gs before hval0 hW _ _ hL _
  have hval : ∀ (j : Nat) t v, Tryd.f3.params[j]? = some t → args[j]? = some v → Value.okWide Tryd.prog W .any base t v := hval0
  have hW' := hW
  obtain ⟨p, q, hA0, hV0, rfl, hfz, hnd⟩ := hW
  have hA : DataW.TrodAll enc Tryd.prog W 0 (fun _ => true) true Tryd.f3.params.toList args.toList ds p := hA0
  have hV : DataW.TrodVars enc Tryd.prog W (fun _ => true) ["loop.example/g00036/impl.multipliers"] gs q := hV0
  rw [Tryd.params3] at hA hval
  obtain ⟨v0, vs0, d0, ds0, p0, q0, hargs, rfl, rfl, h0, r0⟩ := trodAll_cons hA
  obtain ⟨v1, vs1, d1, ds1, p1, q1, rfl, rfl, rfl, h1, r1⟩ := trodAll_cons r0
  obtain ⟨rfl, rfl, rfl⟩ := trodAll_nil r1
  obtain rfl : args = #[v0, v1] := by cases args; simp_all
  obtain ⟨g, t, cs, fuel, d, p', rfl, hg, ht, hvar, hd, rfl⟩ := trodVars_one hV
  obtain rfl := Option.some.inj (gMul.symm.trans hg)
  obtain rfl := Option.some.inj (tMul.symm.trans ht)
  obtain rfl : cs = cellsM := Option.some.inj (hvar.symm.trans (cells_of_laid hL))
  obtain ⟨rfl, rfl⟩ := DataW.Trod.unique (v := .agg cellsM) ⟨fuel, hd⟩ ⟨3, reads_mul enc W _⟩
  obtain ⟨a0, len0, cap0, rfl⟩ := okWide_slice Tryd.underlying22 (hval 0 22 v0 rfl rfl)
  have k0 := h0
  have lt0 : ∀ x ∈ p0, x.block < W.heap.size := by obtain ⟨m, hm⟩ := k0; exact DataW.trod_lt m _ _ _ hm
  obtain ⟨z0, w0⟩ : ∃ zs, IsRow .u8 W a0 len0 cap0 zs := by
    obtain ⟨fuel, hf⟩ := h0
    rcases open_ints Tryd.underlying22 Tryd.underlying5 (by kernel_rfl) hf with ⟨hcs, _⟩ | ⟨x, l, c, zs, hcs, _, hl, hm, hz, _, hcell, hwz⟩
    · simp [Value.cells] at hcs
      obtain ⟨rfl, rfl, rfl⟩ := hcs
      exact ⟨[], .inl ⟨rfl, rfl, rfl, rfl⟩⟩
    · simp [Value.cells] at hcs
      obtain ⟨rfl, rfl, rfl⟩ := hcs
      exact ⟨zs, .inr ⟨_, rfl, hl, hm, by simpa using hz, hcell, hwz⟩⟩
  obtain ⟨a1, rfl, rfl, rfl, w1⟩ := Go.ChangeMaps.open_string Tryd.underlying9 (hval 1 9 v1 rfl rfl) h1
  clear hA0 hV0 hval0
  have hM := mults_of (cells_of_laid hL)
  refine (walk a0 len0 cap0 z0 a1 W w0 w1 hM).mono fun e W' ⟨he, bel⟩ => ?_
  subst he
  exact ⟨_, rfl, _, _, _, [], _, _, hW', trodAll_mk1 (shut_bool Tryd.underlying4 _), (trodAll_cons_mk (Below.trod laidOut (by kernel_rfl) (of_decide_eq_true (by kernel_rfl)) k0 bel lt0) (trodAll_cons_mk (Go.ChangeMaps.shut_string Tryd.underlying9 w1) trodAll_mk0)), vars_kept enc (cells_of_laid hL) hM.1 bel, bel.frame _, fun h => by cases h⟩

theorem row : Rows.FnExactMakeCapSaid :=
  OpenClaim.holds_of_wide 3 Tryd.f3 rfl rfl rfl rfl rfl rfl rfl ⟨rfl, rfl, rfl, rfl, rfl⟩ rfl rfl rfl rfl rfl (by kernel_rfl) Tryd.func3 (by kernel_rfl)
    (of_decide_eq_true (by kernel_rfl)) (by unfold Func.isWrapper; first | (rw [if_pos (by decide +kernel)]; kernel_rfl) | (rw [if_neg (by decide +kernel)]; exact ⟨rfl, rfl⟩))
    (fun os started H enc _ => lifted os started H enc)
theorem card : Rows.FnExactMakeCapCardSaid :=
  Claim7.holds_tied_plain_at .later [] [.data] true (true, "3074956563d812fa1523974774f962e1e5721003404b07cffdbe9e790f8dec4c") false
    row (fun _ h => by cases h) (by kernel_rfl) (fun _ h => by cases h) fnExactMakeCap_row_tie rfl ⟨rfl, rfl⟩ (by kernel_rfl) rfl
    (fun f fn hf hfn => by
      obtain rfl : f = 3 := Option.some.inj ((show Tryd.prog.funcNamed "loop.example/g00036/laws.FnExactMakeCap" = some 3 by kernel_rfl).symm.trans hf) |>.symm
      obtain rfl : fn = Tryd.f3 := (Option.some.inj (Tryd.func3.symm.trans hfn)).symm
      exact ⟨by kernel_rfl, fun j t ht => by
        rw [Tryd.params3] at ht
        have hm : t ∈ [22, 9] := by simpa using Array.mem_of_getElem? ht
        have hall : ([22, 9].all fun u => !Tryd.prog.wantsStandIn u) = true := by kernel_rfl
        exact (show Tryd.prog.wantsStandIn t = false by simpa using List.all_eq_true.1 hall t hm)⟩)
    (by kernel_rfl)
end Go.Proofs.YtfnjgakjainljaaDoor.D.fnExactMakeCap
namespace Go.Proofs.YtfnjgakjainljaaDoor
theorem fnExactMakeCap_holds : Rows.FnExactMakeCapCardSaid := D.fnExactMakeCap.card
end Go.Proofs.YtfnjgakjainljaaDoor
