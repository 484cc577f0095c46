/- The row and the card of laws.FnExactPassHash: its walk, then the row's step. -/
import Derived.Test.YteoaglemkogdaaaDoorRows
import Derived.Test.YteoaglemkogdaaaDoorCards
import Derived.Test.YteoaglemkogdaaaDoorTie
import Derived.Test.YteoaglemkogdaaaDoorDLawKit
import Derived.Test.YteoaglemkogdaaaDoorKPa
import Derived.Test.YteoaglemkogdaaaDoorDIn
import Derived.Test.YteoaglemkogdaaaDoorDMark
import Derived.WalkKit
import Derived.ProofKit
import Derived.OpenShut
import Derived.ShutString
import Derived.ChangeOld
import Derived.Below
import Derived.Lib.SmallJoins
import Derived.LaidMore
import Derived.ChangeVars
import Derived.SevenTiedAt
import Derived.Stop.Joined
namespace Go.Proofs.YteoaglemkogdaaaDoor.D.fnExactPassHash
open Go.ChangeShapes Go.WideShapes Go.ChangeAt Go.RowKit Go.Joins
set_option linter.unusedVariables false

set_option maxHeartbeats 4000000 in
theorem walk (p : ByteArray) (a : Option Addr) (len cap : Nat) (zs : List Int) (n : Int) (w : World) (hp : p.size ≤ maxLen) (hr : IsRow .u8 w a len cap zs) (hn : (Lit.int .i64 n).wf = true) (hM : Mults w) :
    Calls Tryd.prog 3 #[.string p, .slice a len cap, .int .i64 n] w fun e w' => e = .returned (.bool true) ∧ Below w.heap.size w w' := by
  obtain ⟨⟨l, hs⟩, hc, hm⟩ := bytes_in hr
  clear hr hn
  have hl : len ≤ maxLen := Nat.le_trans hc hm
  unfold maxLen at hl hp
  have HS := hide hs
  have hll := hide hs.1
  have HM := hide hM
  have h00 := hM.1
  clear hs hc hm hM
  by_cases h1 : (1048576 : Int) < (p.size : Int)
  · go_enter Tryd.func3, Tryd.ntmps3
    go_wp2_with fail
    go_ret
    exact ⟨rfl, Below.refl _ _⟩
  by_cases h2 : (1048576 : Int) < (len : Int)
  · go_enter Tryd.func3, Tryd.ntmps3
    go_wp2_with fail
    go_ret
    exact ⟨rfl, Below.refl _ _⟩
  have hp' : p.size ≤ 1048576 := by omega
  have h1' : len ≤ 1048576 := by omega
  clear hl hp
  have hdl := hashD_len p.data.toList l n
  obtain ⟨G, hG⟩ : ∃ G, hashD p.data.toList l n = G := ⟨_, rfl⟩
  have HG := hide hG
  rw [hG] at hdl
  clear hG
  have hG20 : G.length ≤ 1048576 := by omega
  go_enter Tryd.func3, Tryd.ntmps3
  go_wp2_with fail
  refine (toByteS_any a len cap l _ h1' ((unhide HS))).mono ?_
  rintro e w1 ⟨rfl, hr1, hb1⟩
  have zr1 := hr1.lt
  have z1 := hb1.size
  have Ra_1 := hide (hr1)
  have B_1 := hide (hb1)
  clear hb1
  clear hr1
  have X1 := hide (slB_row (unhide Ra_1) (unhide Ra_1).lt)
  rw [← unhide hll] at X1
  go_wp2_with fail
  refine (sPassHash_any p _ len _ l n _ hp' h1' (unhide X1)).mono ?_
  rintro e w2 ⟨v2, D2, hD2, rfl, ho2, hb2⟩
  obtain rfl : D2 = G := by rw [unhide hD2, unhide HG]
  obtain ⟨aw, capw, rfl, hsw⟩ := own_sl ho2
  have Ra_2 := hide ((unhide Ra_1).keep hb2)
  have B_2 := hide (bTr (unhide B_1) hb2)
  have z2 := hb2.size
  have Sw_2 := hide (hsw)
  clear Ra_1 B_1 hb2
  clear hsw ho2 hD2 X1
  clear Ra_2
  go_wp2_with fail
  refine (toByteS_any a len cap l _ h1' (((unhide HS).keep (unhide B_2)).mono (unhide B_2).size)).mono ?_
  rintro e w3 ⟨rfl, hr3, hb3⟩
  have zr3 := hr3.lt
  have B_3 := hide (bTr (unhide B_2) hb3)
  have Sw_3 := hide ((unhide Sw_2).keep hb3)
  have z3 := hb3.size
  have Rx_3 := hide (hr3)
  clear B_2 Sw_2 hb3
  clear hr3
  have X1 := hide (slB_row (unhide Rx_3) (unhide Rx_3).lt)
  rw [← unhide hll] at X1
  go_wp2_with fail
  refine (iPassHash_any p _ len _ l n _ hp' h1' (unhide X1) ((unhide HM).keepB (unhide B_3) h00)).mono ?_
  rintro e w4 ⟨v4, D4, hD4, rfl, ho4, hb4⟩
  obtain rfl : D4 = D2 := by rw [unhide hD4, unhide HG]
  obtain ⟨ag, capg, rfl, hsg⟩ := own_sl ho4
  clear hsg
  have B_4 := hide (bTr (unhide B_3) hb4)
  have Sw_4 := hide ((unhide Sw_3).keep hb4)
  have Rx_4 := hide ((unhide Rx_3).keep hb4)
  have z4 := hb4.size
  have Og_4 := hide (ho4)
  clear B_3 Sw_3 Rx_3 hb4
  clear ho4 hD4 X1
  have Y5 := hide (show SlB w4 w4.heap.size ag D4.length D4 by
    obtain ⟨a8, c8, e8, y8⟩ := own_sl (unhide Og_4)
    simp only [Value.slice.injEq, true_and] at e8
    rw [e8.1]; exact y8)
  go_wp2_with fail
  refine (eqByteS_any ag aw D4.length D4.length capg capw D4 D4 _ hG20 hG20 (unhide Y5) ((unhide Sw_4).mono (by omega))).mono ?_
  rintro e w5 ⟨rfl, hb5⟩
  rw [decide_eq_true (rfl : D4 = D4)]
  have B_5 := hide (bTr (unhide B_4) hb5)
  have Sw_5 := hide ((unhide Sw_4).keep hb5)
  have Rx_5 := hide ((unhide Rx_4).keep hb5)
  have Og_5 := hide (own_keep (unhide Og_4) hb5)
  have z5 := hb5.size
  clear B_4 Sw_4 Rx_4 Og_4 hb5
  clear Y5
  go_wp2_with fail
  refine (toByteS_any a len cap l _ h1' (((unhide HS).keep (unhide B_5)).mono (unhide B_5).size)).mono ?_
  rintro e w6 ⟨rfl, hr6, hb6⟩
  have zr6 := hr6.lt
  have B_6 := hide (bTr (unhide B_5) hb6)
  have Sw_6 := hide ((unhide Sw_5).keep hb6)
  have Rx_6 := hide ((unhide Rx_5).keep hb6)
  have Og_6 := hide (own_keep (unhide Og_5) hb6)
  have z6 := hb6.size
  have Rt_6 := hide (hr6)
  clear B_5 Sw_5 Rx_5 Og_5 hb6
  clear hr6
  have X1 := hide (slB_row (unhide Rx_6) (unhide Rx_6).lt)
  rw [← unhide hll] at X1
  have X2 := hide (slB_row (unhide Rt_6) (unhide Rt_6).lt)
  rw [← unhide hll] at X2
  go_wp2_with fail
  refine (eqByteS_any _ _ len len _ _ l l _ h1' h1' (unhide X1) (unhide X2)).mono ?_
  rintro e w7 ⟨rfl, hb7⟩
  rw [decide_eq_true (rfl : l = l)]
  have B_7 := hide (bTr (unhide B_6) hb7)
  have Sw_7 := hide ((unhide Sw_6).keep hb7)
  have Rx_7 := hide ((unhide Rx_6).keep hb7)
  have Og_7 := hide (own_keep (unhide Og_6) hb7)
  have Rt_7 := hide ((unhide Rt_6).keep hb7)
  have z7 := hb7.size
  clear B_6 Sw_6 Rx_6 Og_6 Rt_6 hb7
  clear X1 X2
  clear Rt_7
  go_wp2_with fail
  refine (mark_any w2.heap.size len len (cellsOf l) 1 _ h1' (by omega) (by omega) (by rw [unhide hll]; simp [cellsOf]) (unhide Rx_7)).mono ?_
  rintro e w8 ⟨rfl, _, hb8⟩
  have B_8 := hide ((unhide B_7).trans (hb8.below (by omega) (by omega)))
  have Sw_8 := hide ((unhide Sw_7).keepB (hb8.below (by omega) (by omega)))
  have Og_8 := hide (own_but (unhide Og_7) hb8 (by omega))
  have z8 := hb8.size
  clear B_7 Sw_7 Og_7 hb8
  clear Rx_7
  have hk0 : ¬ ((1 : Int) + (len : Int) < 0) := by omega
  have Y9 := hide (show SlB w8 w8.heap.size ag D4.length D4 by
    obtain ⟨a8, c8, e8, y8⟩ := own_sl (unhide Og_8)
    simp only [Value.slice.injEq, true_and] at e8
    rw [e8.1]; exact y8)
  go_wp2_with fail
  refine (eqByteS_any ag aw D4.length D4.length capg capw D4 D4 _ hG20 hG20 (unhide Y9) ((unhide Sw_8).mono (by omega))).mono ?_
  rintro e w9 ⟨rfl, hb9⟩
  rw [decide_eq_true (rfl : D4 = D4)]
  have B_9 := hide (bTr (unhide B_8) hb9)
  have Sw_9 := hide ((unhide Sw_8).keep hb9)
  have Og_9 := hide (own_keep (unhide Og_8) hb9)
  have z9 := hb9.size
  clear B_8 Sw_8 Og_8 hb9
  clear Y9
  go_wp2_with fail
  refine (mark_own _ D4 w3.heap.size _ hG20 (by omega) (unhide Og_9)).mono ?_
  rintro e w10 ⟨rfl, hM10, hb10⟩
  have B_10 := hide ((unhide B_9).trans (hb10.mono (by omega)))
  have Sw_10 := hide ((unhide Sw_9).keepB (hb10.mono (by omega)))
  have z10 := hb10.size
  have Mk_10 := hide (hM10)
  clear B_9 Sw_9 hb10
  clear Og_9 hM10
  go_wp2_with fail
  refine (held_own _ D4.length _ hG20 (unhide Mk_10)).mono ?_
  rintro e w11 ⟨rfl, rfl⟩
  go_wp2_with fail
  refine (toByteS_any a len cap l _ h1' (((unhide HS).keep (unhide B_10)).mono (unhide B_10).size)).mono ?_
  rintro e w11 ⟨rfl, hr11, hb11⟩
  have zr11 := hr11.lt
  have B_11 := hide (bTr (unhide B_10) hb11)
  have Sw_11 := hide ((unhide Sw_10).keep hb11)
  have Mk_11 := hide ((unhide Mk_10).keep hb11)
  have z11 := hb11.size
  have Rx_11 := hide (hr11)
  clear B_10 Sw_10 Mk_10 hb11
  clear hr11
  have X1 := hide (slB_row (unhide Rx_11) (unhide Rx_11).lt)
  rw [← unhide hll] at X1
  go_wp2_with fail
  refine (iPassHash_any p _ len _ l n _ hp' h1' (unhide X1) ((unhide HM).keepB (unhide B_11) h00)).mono ?_
  rintro e w12 ⟨v12, D12, hD12, rfl, ho12, hb12⟩
  obtain rfl : D12 = D4 := by rw [unhide hD12, unhide HG]
  obtain ⟨ah, caph, rfl, hsh⟩ := own_sl ho12
  have B_12 := hide (bTr (unhide B_11) hb12)
  have Sw_12 := hide ((unhide Sw_11).keep hb12)
  have Mk_12 := hide ((unhide Mk_11).keep hb12)
  have Rx_12 := hide ((unhide Rx_11).keep hb12)
  have z12 := hb12.size
  have Sh_12 := hide (hsh)
  clear B_11 Sw_11 Mk_11 Rx_11 hb12
  clear ho12 hD12 X1 hsh
  go_wp2_with fail
  refine (eqByteS_any ah aw D12.length D12.length caph capw D12 D12 _ hG20 hG20 (unhide Sh_12) ((unhide Sw_12).mono (by omega))).mono ?_
  rintro e w13 ⟨rfl, hb13⟩
  rw [decide_eq_true (rfl : D12 = D12)]
  have B_13 := hide (bTr (unhide B_12) hb13)
  have Sw_13 := hide ((unhide Sw_12).keep hb13)
  have Mk_13 := hide ((unhide Mk_12).keep hb13)
  have Rx_13 := hide ((unhide Rx_12).keep hb13)
  have Sh_13 := hide ((unhide Sh_12).keep hb13)
  have z13 := hb13.size
  clear B_12 Sw_12 Mk_12 Rx_12 Sh_12 hb13
  go_wp2_with fail
  refine (held_own _ D12.length _ hG20 (unhide Mk_13)).mono ?_
  rintro e w14 ⟨rfl, rfl⟩
  go_wp2_with fail
  go_ret
  exact ⟨rfl, (unhide B_13)⟩

set_option maxRecDepth 100000 in
theorem lifted (os : Os) (started : os.Started) (H : Type) (enc : TypeId × Value → H) :
    ReturnsInHanded {} Tryd.checked os 3 .any (fun w args => (Rows.fnExactPassHashSpec.pre enc Tryd.prog Tryd.f3 [] false w args ∧ laidMetH Tryd.prog [("loop.example/g00036/impl.multipliers", Rows.laid_loop_example_g00036_impl_multipliers)] w) ∧ sizedMet enc Tryd.prog Tryd.f3 (OpenSpec.ofChange Rows.fnExactPassHashSpec) false w args)
      (Rows.fnExactPassHashSpec.post enc Tryd.prog Tryd.f3 false true false false) := by
  refine returnsInHanded_of_change_and (C := Tryd.checked) (X := fun w _ => laidMetH Tryd.prog [("loop.example/g00036/impl.multipliers", Rows.laid_loop_example_g00036_impl_multipliers)] w) (fun _ _ _ hh h => h.of_heap hh) own started (by kernel_rfl) Tryd.func3
    (ChangeSpec.witness_shaped (enc := enc) (C := Tryd.checked) (os := os) (X := fun w _ => laidMetH Tryd.prog [("loop.example/g00036/impl.multipliers", Rows.laid_loop_example_g00036_impl_multipliers)] w) false (World.doorLaid Tryd.prog 400 os) #[.string ByteArray.empty, .slice none 0 0, .int .i64 0] 8 rfl (World.shaped_of_RefB (by kernel_rfl) (by kernel_rfl)) (by kernel_rfl) (by kernel_rfl) (by kernel_rfl) (door_met os _)) ?_
  intro W base args ds gs before hval0 hW _ _ hL _
  have hval : ∀ (j : Nat) t v, Tryd.f3.params[j]? = some t → args[j]? = some v → Value.okWide Tryd.prog W .any base t v := hval0
  have hW' := hW
  obtain ⟨p, q, hA0, hV0, rfl, hfz, hnd⟩ := hW
  have hA : DataW.TrodAll enc Tryd.prog W 0 (fun _ => true) true Tryd.f3.params.toList args.toList ds p := hA0
  have hV : DataW.TrodVars enc Tryd.prog W (fun _ => true) ["loop.example/g00036/impl.multipliers"] gs q := hV0
  rw [Tryd.params3] at hA hval
  obtain ⟨v0, vs0, d0, ds0, p0, q0, hargs, rfl, rfl, h0, r0⟩ := trodAll_cons hA
  obtain ⟨v1, vs1, d1, ds1, p1, q1, rfl, rfl, rfl, h1, r1⟩ := trodAll_cons r0
  obtain ⟨v2, vs2, d2, ds2, p2, q2, rfl, rfl, rfl, h2, r2⟩ := trodAll_cons r1
  obtain ⟨rfl, rfl, rfl⟩ := trodAll_nil r2
  obtain rfl : args = #[v0, v1, v2] := by cases args; simp_all
  obtain ⟨g, t, cs, fuel, d, p', rfl, hg, ht, hvar, hd, rfl⟩ := trodVars_one hV
  obtain rfl := Option.some.inj (gMul.symm.trans hg)
  obtain rfl := Option.some.inj (tMul.symm.trans ht)
  obtain rfl : cs = cellsM := Option.some.inj (hvar.symm.trans (cells_of_laid hL))
  obtain ⟨rfl, rfl⟩ := DataW.Trod.unique (v := .agg cellsM) ⟨fuel, hd⟩ ⟨3, reads_mul enc W _⟩
  obtain ⟨a0, rfl, rfl, rfl, w0⟩ := Go.ChangeMaps.open_string Tryd.underlying9 (hval 0 9 v0 rfl rfl) h0
  obtain ⟨a1, len1, cap1, rfl⟩ := okWide_slice Tryd.underlying22 (hval 1 22 v1 rfl rfl)
  have k1 := h1
  have lt1 : ∀ x ∈ p1, x.block < W.heap.size := by obtain ⟨m, hm⟩ := k1; exact DataW.trod_lt m _ _ _ hm
  obtain ⟨z1, w1⟩ : ∃ zs, IsRow .u8 W a1 len1 cap1 zs := by
    obtain ⟨fuel, hf⟩ := h1
    rcases open_ints Tryd.underlying22 Tryd.underlying5 (by kernel_rfl) hf with ⟨hcs, _⟩ | ⟨x, l, c, zs, hcs, _, hl, hm, hz, _, hcell, hwz⟩
    · simp [Value.cells] at hcs
      obtain ⟨rfl, rfl, rfl⟩ := hcs
      exact ⟨[], .inl ⟨rfl, rfl, rfl, rfl⟩⟩
    · simp [Value.cells] at hcs
      obtain ⟨rfl, rfl, rfl⟩ := hcs
      exact ⟨zs, .inr ⟨_, rfl, hl, hm, by simpa using hz, hcell, hwz⟩⟩
  obtain ⟨a2, rfl, rfl, rfl, w2⟩ := open_int Tryd.underlying3 (hval 2 3 v2 rfl rfl) h2
  clear hA0 hV0 hval0
  have hM := mults_of (cells_of_laid hL)
  refine (walk a0 a1 len1 cap1 z1 a2 W w0 w1 w2 hM).mono fun e W' ⟨he, bel⟩ => ?_
  subst he
  exact ⟨_, rfl, _, _, _, [], _, _, hW', trodAll_mk1 (shut_bool Tryd.underlying4 _), (trodAll_cons_mk (Go.ChangeMaps.shut_string Tryd.underlying9 w0) (trodAll_cons_mk (Below.trod laidOut (by kernel_rfl) (of_decide_eq_true (by kernel_rfl)) k1 bel lt1) (trodAll_cons_mk (shut_int Tryd.underlying3 w2) trodAll_mk0))), vars_kept enc (cells_of_laid hL) hM.1 bel, bel.frame _, fun h => by cases h⟩

theorem row : Rows.FnExactPassHashSaid :=
  OpenClaim.holds_of_wide 3 Tryd.f3 rfl rfl rfl rfl rfl rfl rfl ⟨rfl, rfl, rfl, rfl, rfl⟩ rfl rfl rfl rfl rfl (by kernel_rfl) Tryd.func3 (by kernel_rfl)
    (of_decide_eq_true (by kernel_rfl)) (by unfold Func.isWrapper; first | (rw [if_pos (by decide +kernel)]; kernel_rfl) | (rw [if_neg (by decide +kernel)]; exact ⟨rfl, rfl⟩))
    (fun os started H enc _ => lifted os started H enc)
theorem card : Rows.FnExactPassHashCardSaid :=
  Claim7.holds_tied_plain_at .later [] [.data] true (true, "5ed8caf17fa84d2a8cff9eebd364fa181b8e71e2f3554e141f34554c6e168d82") false
    row (fun _ h => by cases h) (by kernel_rfl) (fun _ h => by cases h) fnExactPassHash_row_tie rfl ⟨rfl, rfl⟩ (by kernel_rfl) rfl
    (fun f fn hf hfn => by
      obtain rfl : f = 3 := Option.some.inj ((show Tryd.prog.funcNamed "loop.example/g00036/laws.FnExactPassHash" = some 3 by kernel_rfl).symm.trans hf) |>.symm
      obtain rfl : fn = Tryd.f3 := (Option.some.inj (Tryd.func3.symm.trans hfn)).symm
      exact ⟨by kernel_rfl, fun j t ht => by
        rw [Tryd.params3] at ht
        have hm : t ∈ [9, 22, 3] := by simpa using Array.mem_of_getElem? ht
        have hall : ([9, 22, 3].all fun u => !Tryd.prog.wantsStandIn u) = true := by kernel_rfl
        exact (show Tryd.prog.wantsStandIn t = false by simpa using List.all_eq_true.1 hall t hm)⟩)
    (by kernel_rfl)
end Go.Proofs.YteoaglemkogdaaaDoor.D.fnExactPassHash
namespace Go.Proofs.YteoaglemkogdaaaDoor
theorem fnExactPassHash_holds : Rows.FnExactPassHashCardSaid := D.fnExactPassHash.card
end Go.Proofs.YteoaglemkogdaaaDoor
