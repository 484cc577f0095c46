/- The row and the card of laws.FnExactVerify: its walk, then the row's step. -/
import Derived.Test.YtcgodelkanifbaaDoorRows
import Derived.Test.YtcgodelkanifbaaDoorCards
import Derived.Test.YtcgodelkanifbaaDoorTie
import Derived.Test.YtcgodelkanifbaaDoorLawKit
import Derived.Test.YtcgodelkanifbaaDoorVrfB
import Derived.WalkKit
import Derived.ProofKit
import Derived.OpenShut
import Derived.ShutString
import Derived.ChangeOld
import Derived.Below
import Derived.Lib.SmallJoins
import Derived.LaidMore
import Derived.ChangeVars
import Derived.SevenTiedAt
import Derived.Stop.Joined
namespace Go.Proofs.YtcgodelkanifbaaDoor.fnExactVerify
open Go.ChangeShapes Go.WideShapes Go.ChangeAt Go.RowKit Go.Joins
set_option linter.unusedVariables false

theorem slb_cur {w W : World} {a : Option Addr} {len : Nat} {l : List UInt8} (h : Hid (SlB w w.heap.size a len l)) (hb : Hid (Below w.heap.size w W)) : SlB W W.heap.size a len l := ((unhide h).keep (unhide hb)).mono (unhide hb).size

set_option maxHeartbeats 1000000 in
theorem walk (p : Int) (a : Option Addr) (len cap : Nat) (zs : List Int) (r z : Int) (w : World) (_ : (Lit.int .i64 p).wf = true) (hr : IsRow .u8 w a len cap zs) (_ : (Lit.int .i64 r).wf = true) (_ : (Lit.int .i64 z).wf = true) (hM : Mults w) :
    Calls Tryd.prog 8 #[.int .i64 p, .slice a len cap, .agg #[.int .i64 r, .int .i64 z]] w fun e w' => e = .returned (.bool true) ∧ Below w.heap.size w w' := by
  obtain ⟨⟨l, hs⟩, hc, hm⟩ := bytes_in hr
  clear hr
  have hl : len ≤ maxLen := Nat.le_trans hc hm
  unfold maxLen at hl
  have HS := hide hs
  have hll := hide hs.1
  have HM := hide hM
  have h00 := hM.1
  clear hs hc hm hM
  have RA := hide (RowIs.new w #[.int .i64 r, .int .i64 z] 45)
  have BA := hide (bAl (Below.refl w.heap.size w) (.cells #[.int .i64 r, .int .i64 z] 45))
  by_cases h1 : (1048576 : Int) < (len : Int)
  · go_enter Tryd.func8, Tryd.ntmps8
    go_wp2_with fail
    go_ret
    exact ⟨rfl, unhide BA⟩
  have h1' : len ≤ 1048576 := by omega
  clear hl
  go_enter Tryd.func8, Tryd.ntmps8
  go_wp2_with fail
  have BD : Hid (Below w.heap.size w (w.alloc (.cells #[.int .i64 r, .int .i64 z] 45)).drew) := hide (unhide BA).drew
  have hsz : (w.alloc (.cells #[.int .i64 r, .int .i64 z] 45)).drew.heap.size = w.heap.size + 1 := by simp
  have HZ := hide hsz
  clear hsz
  have RD : Hid (RowIs (w.alloc (.cells #[.int .i64 r, .int .i64 z] 45)).drew w.heap.size #[.int .i64 r, .int .i64 z] 45) := hide (unhide RA)
  go_region_with (first
    | (go_at_call 21; refine (toByteS_any a len cap l _ h1' (slb_cur HS (by assumption))).mono ?_; rintro e w1 ⟨rfl, hr1, hb1⟩; (try rw [unhide HZ] at hr1); have BT : Hid (Below w.heap.size w _) := hide (bTr (unhide (by assumption)) hb1); have RT : Hid (RowIs w1 w.heap.size #[.int .i64 r, .int .i64 z] 45) := hide (RowIs.keep (unhide (by assumption)) hb1); have e0 := (unhide RT).at (o := 0) (v := .int .i64 r) rfl; have e1 := (unhide RT).at (o := 1) (v := .int .i64 z) rfl; have ST := hide (slB_row hr1 hr1.lt); rw [← unhide hll] at ST; clear hr1 hb1)
    | (go_at_call 30; refine (toSig_any r z _).mono ?_; rintro e w2 ⟨rfl, hb2⟩; have BS : Hid (Below w.heap.size w _) := hide (bTr (unhide (by assumption)) hb2); have RS : Hid (RowIs w2 w.heap.size #[.int .i64 r, .int .i64 z] 45) := hide (RowIs.keep (unhide (by assumption)) hb2); (try (have SS := hide (((unhide ST).keep hb2).mono hb2.size))); clear hb2)
    | (go_at_call 29; refine (sVerify_any p _ len _ l r z _ h1' (unhide (by assumption))).mono ?_; rintro e w3 ⟨⟨b3, hv3, rfl⟩, hb3⟩; have BV : Hid (Below w.heap.size w _) := hide (bTr (unhide (by assumption)) hb3); have RV : Hid (RowIs w3 w.heap.size #[.int .i64 r, .int .i64 z] 45) := hide (RowIs.keep (unhide (by assumption)) hb3); clear hb3))
  all_goals
    have BX := hide (unhide BV)
    have RX := hide (unhide RV)
    clear BD RD BT RT BS RS BA RA HZ
  all_goals
    go_wp2_with fail
    refine (toByteS_any a len cap l _ h1' (slb_cur HS BX)).mono ?_
    rintro e w4 ⟨rfl, hr4, hb4⟩
    have B4 := hide (bTr (unhide BX) hb4)
    have Q4 := hide ((unhide RX).keep hb4)
    have R4 := hide hr4
    have S4 := hide (slB_row hr4 hr4.lt)
    rw [← unhide hll] at S4
    have e2 := (unhide Q4).at (o := 0) (v := .int .i64 r) rfl
    have e3 := (unhide Q4).at (o := 1) (v := .int .i64 z) rfl
    clear hr4 hb4 BX RX BV RV
    go_wp2_with fail
    refine (toSig_any r z _).mono ?_
    rintro e w5 ⟨rfl, hb5⟩
    have B5 := hide (bTr (unhide B4) hb5)
    have R5 := hide ((unhide R4).keep hb5)
    have S5 := hide (((unhide S4).keep hb5).mono hb5.size)
    clear hb5 B4 R4 S4 Q4
    go_wp2_with fail
    refine (iVerify_any p _ len _ l r z _ h1' (unhide S5) ((unhide HM).keepB (unhide B5) h00)).mono ?_
    rintro e w6 ⟨⟨b6, hv6, rfl⟩, hb6⟩
    obtain rfl : b6 = b3 := hv6.one hv3
    have B6 := hide (bTr (unhide B5) hb6)
    have R6 := hide ((unhide R5).keep hb6)
    have hbb : (b6 != b6) = false := by simp
    clear hb6 B5 R5 S5 hv6 hv3
    go_wp2_with fail
    refine (toByteS_any a len cap l _ h1' (slb_cur HS B6)).mono ?_
    rintro e w7 ⟨rfl, hr7, hb7⟩
    have B7 := hide (bTr (unhide B6) hb7)
    have R7 := hide ((unhide R6).keep hb7)
    have X7 := hide (slB_row hr7 hr7.lt)
    have Z7 := hide (slB_row (unhide R7) (unhide R7).lt)
    rw [← unhide hll] at X7 Z7
    clear hr7 hb7 B6 R6
    go_wp2_with fail
    refine (eqByteS_any _ _ len len _ _ l l _ h1' h1' (unhide Z7) (unhide X7)).mono ?_
    rintro e w8 ⟨rfl, hb8⟩
    rw [decide_eq_true (rfl : l = l)]
    have B8 := hide (bTr (unhide B7) hb8)
    clear hb8
    go_wp2_with fail
    go_ret
    exact ⟨rfl, unhide B8⟩

set_option maxRecDepth 100000 in
theorem lifted (os : Os) (started : os.Started) (H : Type) (enc : TypeId × Value → H) :
    ReturnsInHanded {} Tryd.checked os 8 .any (fun w args => (Rows.fnExactVerifySpec.pre enc Tryd.prog Tryd.f8 [] false w args ∧ laidMetH Tryd.prog [("loop.example/g00036/impl.multipliers", Rows.laid_loop_example_g00036_impl_multipliers)] w) ∧ sizedMet enc Tryd.prog Tryd.f8 (OpenSpec.ofChange Rows.fnExactVerifySpec) false w args)
      (Rows.fnExactVerifySpec.post enc Tryd.prog Tryd.f8 false true false false) := by
  refine returnsInHanded_of_change_and (C := Tryd.checked) (X := fun w _ => laidMetH Tryd.prog [("loop.example/g00036/impl.multipliers", Rows.laid_loop_example_g00036_impl_multipliers)] w) (fun _ _ _ hh h => h.of_heap hh) own started (by kernel_rfl) Tryd.func8
    (ChangeSpec.witness_shaped (enc := enc) (C := Tryd.checked) (os := os) (X := fun w _ => laidMetH Tryd.prog [("loop.example/g00036/impl.multipliers", Rows.laid_loop_example_g00036_impl_multipliers)] w) false (World.doorLaid Tryd.prog 400 os) #[.int .i64 0, .slice none 0 0, .agg #[.int .i64 0, .int .i64 0]] 8 rfl (World.shaped_of_RefB (by kernel_rfl) (by kernel_rfl)) (by kernel_rfl) (by kernel_rfl) (by kernel_rfl) (door_met os _)) ?_
  intro W base args ds gs before hval0 hW _ _ hL _
  have hval : ∀ (j : Nat) t v, Tryd.f8.params[j]? = some t → args[j]? = some v → Value.okWide Tryd.prog W .any base t v := hval0
  have hW' := hW
  obtain ⟨p, q, hA0, hV0, rfl, hfz, hnd⟩ := hW
  have hA : DataW.TrodAll enc Tryd.prog W 0 (fun _ => true) true Tryd.f8.params.toList args.toList ds p := hA0
  have hV : DataW.TrodVars enc Tryd.prog W (fun _ => true) ["loop.example/g00036/impl.multipliers"] gs q := hV0
  rw [Tryd.params8] at hA hval
  obtain ⟨v0, vs0, d0, ds0, p0, q0, hargs, rfl, rfl, h0, r0⟩ := trodAll_cons hA
  obtain ⟨v1, vs1, d1, ds1, p1, q1, rfl, rfl, rfl, h1, r1⟩ := trodAll_cons r0
  obtain ⟨v2, vs2, d2, ds2, p2, q2, rfl, rfl, rfl, h2, r2⟩ := trodAll_cons r1
  obtain ⟨rfl, rfl, rfl⟩ := trodAll_nil r2
  obtain rfl : args = #[v0, v1, v2] := by cases args; simp_all
  obtain ⟨g, t, cs, fuel, d, p', rfl, hg, ht, hvar, hd, rfl⟩ := trodVars_one hV
  obtain rfl := Option.some.inj (gMul.symm.trans hg)
  obtain rfl := Option.some.inj (tMul.symm.trans ht)
  obtain rfl : cs = cellsM := Option.some.inj (hvar.symm.trans (cells_of_laid hL))
  obtain ⟨rfl, rfl⟩ := DataW.Trod.unique (v := .agg cellsM) ⟨fuel, hd⟩ ⟨3, reads_mul enc W _⟩
  obtain ⟨a0, rfl, rfl, rfl, w0⟩ := open_int Tryd.underlying3 (hval 0 3 v0 rfl rfl) h0
  obtain ⟨a1, len1, cap1, rfl⟩ := okWide_slice Tryd.underlying22 (hval 1 22 v1 rfl rfl)
  have k1 := h1
  have lt1 : ∀ x ∈ p1, x.block < W.heap.size := by obtain ⟨m, hm⟩ := k1; exact DataW.trod_lt m _ _ _ hm
  obtain ⟨z1, w1⟩ : ∃ zs, IsRow .u8 W a1 len1 cap1 zs := by
    obtain ⟨fuel, hf⟩ := h1
    rcases open_ints Tryd.underlying22 Tryd.underlying5 (by kernel_rfl) hf with ⟨hcs, _⟩ | ⟨x, l, c, zs, hcs, _, hl, hm, hz, _, hcell, hwz⟩
    · simp [Value.cells] at hcs
      obtain ⟨rfl, rfl, rfl⟩ := hcs
      exact ⟨[], .inl ⟨rfl, rfl, rfl, rfl⟩⟩
    · simp [Value.cells] at hcs
      obtain ⟨rfl, rfl, rfl⟩ := hcs
      exact ⟨zs, .inr ⟨_, rfl, hl, hm, by simpa using hz, hcell, hwz⟩⟩
  have k2 := h2
  have lt2 : ∀ x ∈ p2, x.block < W.heap.size := by obtain ⟨m, hm⟩ := k2; exact DataW.trod_lt m _ _ _ hm
  obtain ⟨x2, n2, e2, b2, c2⟩ : ∃ (x n : Int), v2 = .agg #[.int .i64 x, .int .i64 n] ∧ (Lit.int .i64 x).wf = true ∧ (Lit.int .i64 n).wf = true := by
    obtain ⟨c0, c1, y0, y1, m, rfl, _, _, g0, g1⟩ := open_agg2 Tryd.underlying45 (by kernel_rfl) (by kernel_rfl) (hval 2 45 v2 rfl rfl) h2
    obtain ⟨a, q0, _, wa⟩ := DataW.trod_int Tryd.underlying3 g0
    obtain ⟨b, q1, _, wb⟩ := DataW.trod_int Tryd.underlying3 g1
    simp at q0 q1
    subst q0 q1
    exact ⟨a, b, rfl, wa, wb⟩
  subst e2
  clear hA0 hV0 hval0
  have hM := mults_of (cells_of_laid hL)
  refine (walk a0 a1 len1 cap1 z1 x2 n2 W w0 w1 b2 c2 hM).mono fun e W' ⟨he, bel⟩ => ?_
  subst he
  exact ⟨_, rfl, _, _, _, [], _, _, hW', trodAll_mk1 (shut_bool Tryd.underlying4 _), (trodAll_cons_mk (shut_int Tryd.underlying3 w0) (trodAll_cons_mk (Below.trod laidOut (by kernel_rfl) (of_decide_eq_true (by kernel_rfl)) k1 bel lt1) (trodAll_cons_mk (Below.trod laidOut (by kernel_rfl) (of_decide_eq_true (by kernel_rfl)) k2 bel lt2) trodAll_mk0))), vars_kept enc (cells_of_laid hL) hM.1 bel, bel.frame _, fun h => by cases h⟩

theorem row : Rows.FnExactVerifySaid :=
  OpenClaim.holds_of_wide 8 Tryd.f8 rfl rfl rfl rfl rfl rfl rfl ⟨rfl, rfl, rfl, rfl, rfl⟩ rfl rfl rfl rfl rfl (by kernel_rfl) Tryd.func8 (by kernel_rfl)
    (of_decide_eq_true (by kernel_rfl)) (by unfold Func.isWrapper; first | (rw [if_pos (by decide +kernel)]; kernel_rfl) | (rw [if_neg (by decide +kernel)]; exact ⟨rfl, rfl⟩))
    (fun os started H enc _ => lifted os started H enc)
theorem card : Rows.FnExactVerifyCardSaid :=
  Claim7.holds_tied_plain_at .later [] [.data] true (true, "4d4ec08cc399d53a7ca90ccacaa052f760e0b328250ac90dfbc256b2473df321") false
    row (fun _ h => by cases h) (by kernel_rfl) (fun _ h => by cases h) fnExactVerify_row_tie rfl ⟨rfl, rfl⟩ (by kernel_rfl) rfl
    (fun f fn hf hfn => by
      obtain rfl : f = 8 := Option.some.inj ((show Tryd.prog.funcNamed "loop.example/g00036/laws.FnExactVerify" = some 8 by kernel_rfl).symm.trans hf) |>.symm
      obtain rfl : fn = Tryd.f8 := (Option.some.inj (Tryd.func8.symm.trans hfn)).symm
      exact ⟨by kernel_rfl, fun j t ht => by
        rw [Tryd.params8] at ht
        have hm : t ∈ [3, 22, 45] := by simpa using Array.mem_of_getElem? ht
        have hall : ([3, 22, 45].all fun u => !Tryd.prog.wantsStandIn u) = true := by kernel_rfl
        exact (show Tryd.prog.wantsStandIn t = false by simpa using List.all_eq_true.1 hall t hm)⟩)
    (by kernel_rfl)
end Go.Proofs.YtcgodelkanifbaaDoor.fnExactVerify
namespace Go.Proofs.YtcgodelkanifbaaDoor
theorem fnExactVerify_holds : Rows.FnExactVerifyCardSaid := fnExactVerify.card
end Go.Proofs.YtcgodelkanifbaaDoor
