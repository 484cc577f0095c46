/- The row and the card of laws.FnExactDigest: its walk, then the row's step. -/
import Derived.Test.YtcgodelkanifbaaDoorRows
import Derived.Test.YtcgodelkanifbaaDoorCards
import Derived.Test.YtcgodelkanifbaaDoorTie
import Derived.Test.YtcgodelkanifbaaDoorLawKit
import Derived.Test.YtcgodelkanifbaaDoorDigL
import Derived.Test.YtcgodelkanifbaaDoorMark
import Derived.WalkKit
import Derived.ProofKit
import Derived.OpenShut
import Derived.ShutString
import Derived.ChangeOld
import Derived.Below
import Derived.Lib.SmallJoins
import Derived.LaidMore
import Derived.ChangeVars
import Derived.SevenTiedAt
import Derived.Stop.Joined
namespace Go.Proofs.YtcgodelkanifbaaDoor.fnExactDigest
open Go.ChangeShapes Go.WideShapes Go.ChangeAt Go.RowKit Go.Joins
set_option linter.unusedVariables false

set_option maxHeartbeats 2000000 in
theorem walk (a : Option Addr) (len cap : Nat) (zs : List Int) (w : World) (hr : IsRow .u8 w a len cap zs) (hM : Mults w) :
    Calls Tryd.prog 5 #[.slice a len cap] w fun e w' => e = .returned (.bool true) ∧ Below w.heap.size w w' := by
  obtain ⟨⟨l, hs⟩, hc, hm⟩ := bytes_in hr
  clear hr
  have hl : len ≤ maxLen := Nat.le_trans hc hm
  unfold maxLen at hl
  have HS := hide hs
  have hll := hide hs.1
  have HM := hide hM
  have h00 := hM.1
  clear hs hc hm hM
  by_cases h1 : (1048576 : Int) < (len : Int)
  · go_enter Tryd.func5, Tryd.ntmps5
    go_wp2_with fail
    go_ret
    exact ⟨rfl, Below.refl _ _⟩
  have h1' : len ≤ 1048576 := by omega
  have hm1 := hide (show len ≤ maxLen by unfold maxLen; omega)
  clear hl
  have hdl := digD_len l
  obtain ⟨G, hG⟩ : ∃ G, digD l = G := ⟨_, rfl⟩
  have HG := hide hG
  rw [hG] at hdl
  clear hG
  have hG20 : G.length ≤ 1048576 := by omega
  go_enter Tryd.func5, Tryd.ntmps5
  go_wp2_with fail
  refine (toByteS_any a len cap l _ h1' (unhide HS)).mono ?_
  rintro e w1 ⟨rfl, hr1, hb1⟩
  have B1 := hide hb1
  have S1 := hide (slB_row hr1 hr1.lt)
  rw [← unhide hll] at S1
  clear hr1 hb1
  go_wp2_with fail
  refine (sDigest_any _ len _ l _ (unhide hm1) (unhide S1)).mono ?_
  rintro e w2 ⟨v2, D2, hD2, rfl, ho2, hb2⟩
  obtain rfl : D2 = G := by rw [unhide hD2, unhide HG]
  obtain ⟨a2, cap2, rfl, hs2⟩ := own_sl ho2
  have S2 := hide hs2
  have B2 := hide (bTr (unhide B1) hb2)
  have z2 := (unhide B2).size
  clear hb2 S1 B1 ho2 hs2 hD2
  go_wp2_with fail
  refine (toByteS_any a len cap l _ h1' (((unhide HS).keep (unhide B2)).mono (unhide B2).size)).mono ?_
  rintro e w3 ⟨rfl, hr3, hb3⟩
  have B3 := hide (bTr (unhide B2) hb3)
  have S3 := hide ((unhide S2).keep hb3)
  have R3 := hide hr3
  have z3 := hr3.lt
  have X3 := hide (slB_row hr3 hr3.lt)
  rw [← unhide hll] at X3
  clear hr3 hb3 B2 S2
  have M3 := hide ((unhide HM).keepB (unhide B3) h00)
  go_wp2_with fail
  refine (iDigest_any _ len _ l _ (unhide hm1) (unhide X3) (unhide M3)).mono ?_
  rintro e w4 ⟨v4, D4, hD4, rfl, ho4, hb4⟩
  obtain rfl : D4 = D2 := by rw [unhide hD4, unhide HG]
  obtain ⟨a4, cap4, rfl, hs4⟩ := own_sl ho4
  have O4 := hide ho4
  have B4 := hide (bTr (unhide B3) hb4)
  have S4 := hide ((unhide S3).keep hb4)
  have R4 := hide ((unhide R3).keep hb4)
  have Y4 := hide hs4
  have z4 := hb4.size
  clear hb4 S3 B3 R3 X3 ho4 hs4 hD4
  go_wp2_with fail
  refine (eqByteS_any a4 a2 D4.length D4.length cap4 cap2 D4 D4 _ hG20 hG20 (unhide Y4) ((unhide S4).mono (by omega))).mono ?_
  rintro e w5 ⟨rfl, hb5⟩
  rw [decide_eq_true (rfl : D4 = D4)]
  have O5 := hide (own_keep (unhide O4) hb5)
  have B5 := hide (bTr (unhide B4) hb5)
  have S5 := hide ((unhide S4).keep hb5)
  have R5 := hide ((unhide R4).keep hb5)
  have z5 := hb5.size
  clear hb5 O4 B4 S4 R4 Y4
  go_wp2_with fail
  refine (toByteS_any a len cap l _ h1' (((unhide HS).keep (unhide B5)).mono (unhide B5).size)).mono ?_
  rintro e w6 ⟨rfl, hr6, hb6⟩
  have O6 := hide (own_keep (unhide O5) hb6)
  have B6 := hide (bTr (unhide B5) hb6)
  have S6 := hide ((unhide S5).keep hb6)
  have R6 := hide ((unhide R5).keep hb6)
  have X6 := hide (slB_row hr6 hr6.lt)
  have Z6 := hide (slB_row (unhide R6) (unhide R6).lt)
  rw [← unhide hll] at X6 Z6
  have z6 := hb6.size
  clear hr6 hb6 O5 B5 S5 R5
  go_wp2_with fail
  refine (eqByteS_any _ _ len len _ _ l l _ h1' h1' (unhide Z6) (unhide X6)).mono ?_
  rintro e w7 ⟨rfl, hb7⟩
  rw [decide_eq_true (rfl : l = l)]
  have O7 := hide (own_keep (unhide O6) hb7)
  have B7 := hide (bTr (unhide B6) hb7)
  have S7 := hide ((unhide S6).keep hb7)
  have R7 := hide ((unhide R6).keep hb7)
  have z7 := hb7.size
  clear hb7 O6 B6 S6 R6 X6 Z6
  go_wp2_with fail
  refine (mark_any w2.heap.size len len (cellsOf l) 1 _ h1' (by omega) (by omega) (by rw [unhide hll]; simp [cellsOf]) (unhide R7)).mono ?_
  rintro e w8 ⟨rfl, _, hb8⟩
  have O8 := hide (own_but (unhide O7) hb8 z3)
  have B8 := hide ((unhide B7).trans (hb8.below z2 (unhide B7).size))
  have S8 := hide ((unhide S7).keepB (hb8.below (Nat.le_refl _) (by omega)))
  have z8 := hb8.size
  clear hb8 O7 B7 S7 R7
  obtain ⟨a8, cap8, e8, Y8⟩ := own_sl (unhide O8)
  simp only [Value.slice.injEq, true_and] at e8
  obtain ⟨rfl, rfl⟩ := e8
  have Y8' := hide Y8
  clear Y8
  go_wp2_with fail
  refine (eqByteS_any a4 a2 D4.length D4.length cap4 cap2 D4 D4 _ hG20 hG20 (unhide Y8') ((unhide S8).mono (by omega))).mono ?_
  rintro e w9 ⟨rfl, hb9⟩
  rw [decide_eq_true (rfl : D4 = D4)]
  have O9 := hide (own_keep (unhide O8) hb9)
  have B9 := hide (bTr (unhide B8) hb9)
  have S9 := hide ((unhide S8).keep hb9)
  have z9 := hb9.size
  clear hb9 O8 B8 S8 Y8'
  go_wp2_with fail
  refine (mark_own _ D4 w3.heap.size _ hG20 (by omega) (unhide O9)).mono ?_
  rintro e w10 ⟨rfl, hM10, hb10⟩
  have M10 := hide hM10
  have B10 := hide ((unhide B9).trans (hb10.mono (by omega)))
  have S10 := hide ((unhide S9).keepB (hb10.mono (by omega)))
  have z10 := hb10.size
  clear hM10 hb10 O9 B9 S9
  go_wp2_with fail
  refine (held_own _ D4.length _ hG20 (unhide M10)).mono ?_
  rintro e w11 ⟨rfl, rfl⟩
  go_wp2_with fail
  refine (toByteS_any a len cap l _ h1' (((unhide HS).keep (unhide B10)).mono (unhide B10).size)).mono ?_
  rintro e w12 ⟨rfl, hr12, hb12⟩
  have B12 := hide (bTr (unhide B10) hb12)
  have S12 := hide ((unhide S10).keep hb12)
  have K12 := hide ((unhide M10).keep hb12)
  have X12 := hide (slB_row hr12 hr12.lt)
  rw [← unhide hll] at X12
  have z12 := hb12.size
  clear hr12 hb12 B10 S10 M10
  have N12 := hide ((unhide HM).keepB (unhide B12) h00)
  go_wp2_with fail
  refine (iDigest_any _ len _ l _ (unhide hm1) (unhide X12) (unhide N12)).mono ?_
  rintro e w13 ⟨v13, D13, hD13, rfl, ho13, hb13⟩
  obtain rfl : D13 = D4 := by rw [unhide hD13, unhide HG]
  obtain ⟨a13, cap13, rfl, hs13⟩ := own_sl ho13
  have B13 := hide (bTr (unhide B12) hb13)
  have S13 := hide ((unhide S12).keep hb13)
  have K13 := hide ((unhide K12).keep hb13)
  have Y13 := hide hs13
  have z13 := hb13.size
  clear hb13 B12 S12 K12 X12 N12 ho13 hs13 hD13
  go_wp2_with fail
  refine (eqByteS_any a13 a2 D13.length D13.length cap13 cap2 D13 D13 _ hG20 hG20 (unhide Y13) ((unhide S13).mono (by omega))).mono ?_
  rintro e w14 ⟨rfl, hb14⟩
  rw [decide_eq_true (rfl : D13 = D13)]
  have B14 := hide (bTr (unhide B13) hb14)
  have K14 := hide ((unhide K13).keep hb14)
  clear hb14 B13 S13 K13 Y13
  go_wp2_with fail
  refine (held_own _ D13.length _ hG20 (unhide K14)).mono ?_
  rintro e w15 ⟨rfl, rfl⟩
  go_wp2_with fail
  go_ret
  exact ⟨rfl, unhide B14⟩

set_option maxRecDepth 100000 in
theorem lifted (os : Os) (started : os.Started) (H : Type) (enc : TypeId × Value → H) :
    ReturnsInHanded {} Tryd.checked os 5 .any (fun w args => (Rows.fnExactDigestSpec.pre enc Tryd.prog Tryd.f5 [] false w args ∧ laidMetH Tryd.prog [("loop.example/g00036/impl.multipliers", Rows.laid_loop_example_g00036_impl_multipliers)] w) ∧ sizedMet enc Tryd.prog Tryd.f5 (OpenSpec.ofChange Rows.fnExactDigestSpec) false w args)
      (Rows.fnExactDigestSpec.post enc Tryd.prog Tryd.f5 false true false false) := by
  refine returnsInHanded_of_change_and (C := Tryd.checked) (X := fun w _ => laidMetH Tryd.prog [("loop.example/g00036/impl.multipliers", Rows.laid_loop_example_g00036_impl_multipliers)] w) (fun _ _ _ hh h => h.of_heap hh) own started (by kernel_rfl) Tryd.func5
    (ChangeSpec.witness_shaped (enc := enc) (C := Tryd.checked) (os := os) (X := fun w _ => laidMetH Tryd.prog [("loop.example/g00036/impl.multipliers", Rows.laid_loop_example_g00036_impl_multipliers)] w) false (World.doorLaid Tryd.prog 400 os) #[.slice none 0 0] 8 rfl (World.shaped_of_RefB (by kernel_rfl) (by kernel_rfl)) (by kernel_rfl) (by kernel_rfl) (by kernel_rfl) (door_met os _)) ?_
  intro W base args ds gs before hval0 hW _ _ hL _
  have hval : ∀ (j : Nat) t v, Tryd.f5.params[j]? = some t → args[j]? = some v → Value.okWide Tryd.prog W .any base t v := hval0
  have hW' := hW
  obtain ⟨p, q, hA0, hV0, rfl, hfz, hnd⟩ := hW
  have hA : DataW.TrodAll enc Tryd.prog W 0 (fun _ => true) true Tryd.f5.params.toList args.toList ds p := hA0
  have hV : DataW.TrodVars enc Tryd.prog W (fun _ => true) ["loop.example/g00036/impl.multipliers"] gs q := hV0
  rw [Tryd.params5] at hA hval
  obtain ⟨v0, vs0, d0, ds0, p0, q0, hargs, rfl, rfl, h0, r0⟩ := trodAll_cons hA
  obtain ⟨rfl, rfl, rfl⟩ := trodAll_nil r0
  obtain rfl : args = #[v0] := by cases args; simp_all
  obtain ⟨g, t, cs, fuel, d, p', rfl, hg, ht, hvar, hd, rfl⟩ := trodVars_one hV
  obtain rfl := Option.some.inj (gMul.symm.trans hg)
  obtain rfl := Option.some.inj (tMul.symm.trans ht)
  obtain rfl : cs = cellsM := Option.some.inj (hvar.symm.trans (cells_of_laid hL))
  obtain ⟨rfl, rfl⟩ := DataW.Trod.unique (v := .agg cellsM) ⟨fuel, hd⟩ ⟨3, reads_mul enc W _⟩
  obtain ⟨a0, len0, cap0, rfl⟩ := okWide_slice Tryd.underlying22 (hval 0 22 v0 rfl rfl)
  have k0 := h0
  have lt0 : ∀ x ∈ p0, x.block < W.heap.size := by obtain ⟨m, hm⟩ := k0; exact DataW.trod_lt m _ _ _ hm
  obtain ⟨z0, w0⟩ : ∃ zs, IsRow .u8 W a0 len0 cap0 zs := by
    obtain ⟨fuel, hf⟩ := h0
    rcases open_ints Tryd.underlying22 Tryd.underlying5 (by kernel_rfl) hf with ⟨hcs, _⟩ | ⟨x, l, c, zs, hcs, _, hl, hm, hz, _, hcell, hwz⟩
    · simp [Value.cells] at hcs
      obtain ⟨rfl, rfl, rfl⟩ := hcs
      exact ⟨[], .inl ⟨rfl, rfl, rfl, rfl⟩⟩
    · simp [Value.cells] at hcs
      obtain ⟨rfl, rfl, rfl⟩ := hcs
      exact ⟨zs, .inr ⟨_, rfl, hl, hm, by simpa using hz, hcell, hwz⟩⟩
  clear hA0 hV0 hval0
  have hM := mults_of (cells_of_laid hL)
  refine (walk a0 len0 cap0 z0 W w0 hM).mono fun e W' ⟨he, bel⟩ => ?_
  subst he
  exact ⟨_, rfl, _, _, _, [], _, _, hW', trodAll_mk1 (shut_bool Tryd.underlying4 _), (trodAll_cons_mk (Below.trod laidOut (by kernel_rfl) (of_decide_eq_true (by kernel_rfl)) k0 bel lt0) trodAll_mk0), vars_kept enc (cells_of_laid hL) hM.1 bel, bel.frame _, fun h => by cases h⟩

theorem row : Rows.FnExactDigestSaid :=
  OpenClaim.holds_of_wide 5 Tryd.f5 rfl rfl rfl rfl rfl rfl rfl ⟨rfl, rfl, rfl, rfl, rfl⟩ rfl rfl rfl rfl rfl (by kernel_rfl) Tryd.func5 (by kernel_rfl)
    (of_decide_eq_true (by kernel_rfl)) (by unfold Func.isWrapper; first | (rw [if_pos (by decide +kernel)]; kernel_rfl) | (rw [if_neg (by decide +kernel)]; exact ⟨rfl, rfl⟩))
    (fun os started H enc _ => lifted os started H enc)
theorem card : Rows.FnExactDigestCardSaid :=
  Claim7.holds_tied_plain_at .later [] [.data] true (true, "4d4ec08cc399d53a7ca90ccacaa052f760e0b328250ac90dfbc256b2473df321") false
    row (fun _ h => by cases h) (by kernel_rfl) (fun _ h => by cases h) fnExactDigest_row_tie rfl ⟨rfl, rfl⟩ (by kernel_rfl) rfl
    (fun f fn hf hfn => by
      obtain rfl : f = 5 := Option.some.inj ((show Tryd.prog.funcNamed "loop.example/g00036/laws.FnExactDigest" = some 5 by kernel_rfl).symm.trans hf) |>.symm
      obtain rfl : fn = Tryd.f5 := (Option.some.inj (Tryd.func5.symm.trans hfn)).symm
      exact ⟨by kernel_rfl, fun j t ht => by
        rw [Tryd.params5] at ht
        have hm : t ∈ [22] := by simpa using Array.mem_of_getElem? ht
        have hall : ([22].all fun u => !Tryd.prog.wantsStandIn u) = true := by kernel_rfl
        exact (show Tryd.prog.wantsStandIn t = false by simpa using List.all_eq_true.1 hall t hm)⟩)
    (by kernel_rfl)
end Go.Proofs.YtcgodelkanifbaaDoor.fnExactDigest
namespace Go.Proofs.YtcgodelkanifbaaDoor
theorem fnExactDigest_holds : Rows.FnExactDigestCardSaid := fnExactDigest.card
end Go.Proofs.YtcgodelkanifbaaDoor
