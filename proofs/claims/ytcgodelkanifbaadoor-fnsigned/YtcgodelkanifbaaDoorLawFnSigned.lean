/- The row and the card of laws.FnSigned: its walk, then the row's step. -/
import Derived.Test.YtcgodelkanifbaaDoorRows
import Derived.Test.YtcgodelkanifbaaDoorCards
import Derived.Test.YtcgodelkanifbaaDoorTie
import Derived.Test.YtcgodelkanifbaaDoorLawKit
import Derived.Test.YtcgodelkanifbaaDoorSigM
import Derived.Test.YtcgodelkanifbaaDoorDrwS
import Derived.WalkKit
import Derived.ProofKit
import Derived.OpenShut
import Derived.ShutString
import Derived.ChangeOld
import Derived.Below
import Derived.Lib.SmallJoins
import Derived.LaidMore
import Derived.ChangeVars
import Derived.SevenTiedAt
import Derived.Stop.Joined
namespace Go.Proofs.YtcgodelkanifbaaDoor.fnSigned
open Go.ChangeShapes Go.WideShapes Go.ChangeAt Go.RowKit Go.Joins
set_option linter.unusedVariables false

set_option maxHeartbeats 400000 in
theorem walk (a : Option Addr) (len cap : Nat) (zs : List Int) (w : World) (hr : IsRow .u8 w a len cap zs) (hM : Mults w) :
    Calls Tryd.prog 3 #[.slice a len cap] w fun e w' => e = .returned (.bool true) ∧ Below w.heap.size w w' := by
  have hc := code_of hr
  clear hr
  have hl := hc.1
  unfold maxLen at hl
  have HC := hide hc
  have HM := hide hM
  have h00 := hM.1
  clear hc hM
  by_cases h1 : (1048576 : Int) < (len : Int)
  · go_enter Tryd.func3, Tryd.ntmps3
    go_wp2_with fail
    go_ret
    exact ⟨rfl, Below.refl _ _⟩
  have h1' : len ≤ 1048576 := by omega
  clear hl
  go_enter Tryd.func3, Tryd.ntmps3
  go_wp2_with fail
  refine (drawSign_any a len cap _ (unhide HC)).mono ?_
  rintro e w1 ⟨s, v, D, s0, s1, hD, rfl, ho1, hb1⟩
  obtain ⟨ad, cd, rfl, hs1⟩ := own_sl ho1
  have S1 := hide hs1
  have B1 := hide hb1
  have hD2 : D.length ≤ 1048576 := by omega
  clear ho1 hs1 hb1 HC
  go_wp2_with fail
  refine (iSign_of s ad D.length cd D _ hD2 (unhide S1) ((unhide HM).keepB (unhide B1) h00)).mono ?_
  rintro e w2 ⟨r, z, hsg, rfl, hb2⟩
  have B2 := hide (bTr (unhide B1) hb2)
  have S2 := hide (((unhide S1).keep hb2).mono hb2.size)
  clear hb2 B1 S1
  have RA := hide (RowIs.new w2 #[.int .i64 (r : Int), .int .i64 (z : Int)] 26)
  have BA := hide (bAl (unhide B2) (.cells #[.int .i64 (r : Int), .int .i64 (z : Int)] 26))
  have SA := hide (((unhide S2).keep (bAl (Below.refl _ _) (.cells #[.int .i64 (r : Int), .int .i64 (z : Int)] 26))).mono (bAl (Below.refl _ _) (.cells #[.int .i64 (r : Int), .int .i64 (z : Int)] 26)).size)
  go_wp2_with fail
  have ne : Nonempty (Kept (w2.alloc (.cells #[.int .i64 (r : Int), .int .i64 (z : Int)] 26))) := ⟨⟨_, Below.refl _ _⟩⟩
  have c0 := fun k : Kept (w2.alloc (.cells #[.int .i64 (r : Int), .int .i64 (z : Int)] 26)) => kept_cell (p := ⟨w2.heap.size, 0, none⟩) (unhide RA).lt ((unhide RA).at (o := 0) (v := .int .i64 (r : Int)) rfl) k
  have c1 := fun k : Kept (w2.alloc (.cells #[.int .i64 (r : Int), .int .i64 (z : Int)] 26)) => kept_cell (p := ⟨w2.heap.size, 1, none⟩) (unhide RA).lt ((unhide RA).at (o := 1) (v := .int .i64 (z : Int)) rfl) k
  have qs := hide (fun k : Kept (w2.alloc (.cells #[.int .i64 (r : Int), .int .i64 (z : Int)] 26)) => (show Calls Tryd.prog 12 #[.int .i64 s, .slice ad D.length cd] k.w fun e w' => e = .returned (.agg #[.int .i64 (r : Int), .int .i64 (z : Int)]) ∧ Below k.w.heap.size k.w w' from (sSign_of s ad D.length cd D k.w hD2 (((unhide SA).keep k.h).mono k.h.size)).mono (by
    rintro e w' ⟨r', z', hsg', rfl, hb'⟩
    obtain ⟨e1, e2⟩ := hsg.one hsg'
    exact ⟨by rw [e1, e2], hb'⟩)))
  have q13 := hide (fun w => iPublicOf_any s w)
  have q14 := hide (fun w => sPublicOf_any s w)
  obtain ⟨P, hP⟩ : ∃ P, pubOf s = P := ⟨_, rfl⟩
  rw [hP] at q13 q14
  refine wp_region_kept (by kernel_rfl) (by kernel_rfl) ?_
  repeat (first
    | go_big_quiet_step (first | (go_at_call 12; exact kept_call (unhide qs _)) | (go_at_call 13; exact kept_same (unhide q13 _)) | (go_at_call 14; exact kept_same (unhide q14 _)))
    | quiet_step (first | (go_at_call 12; exact kept_call (unhide qs _)) | (go_at_call 13; exact kept_same (unhide q13 _)) | (go_at_call 14; exact kept_same (unhide q14 _))))
  refine wpQuiet_nil ?_
  rintro _ ⟨k, rfl⟩
  clear ne c0 c1 qs q13 q14
  obtain ⟨w3, hb3⟩ := k
  show Exit.then _ _ _ _ w3
  have B3 := hide (bTr (unhide BA) hb3)
  have R3 := hide ((unhide RA).keep hb3)
  have S3 := hide (((unhide SA).keep hb3).mono hb3.size)
  have T3 := hide (((unhide S2).keep (bAl (Below.refl _ _) (.cells #[.int .i64 (r : Int), .int .i64 (z : Int)] 26))).keep hb3)
  have zb3 := (unhide B2).size
  clear hb3 BA RA SA B2 S2
  have c0 := (unhide R3).at (o := 0) (v := .int .i64 (r : Int)) rfl
  have c1 := (unhide R3).at (o := 1) (v := .int .i64 (z : Int)) rfl
  by_cases hok : okS s D
  · obtain ⟨n, hn, n1, n2⟩ := secB_nat hok.1
    have hP' : P = pw 4 n 2147483579 := by rw [← hP, hn]; unfold pubOf; rw [← hn, if_pos hok.1, hn, Int.toNat_natCast]
    have hr' : r = rN n D := by have := hsg.r; rw [(sg_yes hok).1, hn, Int.toNat_natCast] at this; exact this
    have hz' : z = zN n D := by have := hsg.z; rw [(sg_yes hok).2, hn, Int.toNat_natCast] at this; exact this
    have V := hide (show ∀ x : Nat, x < 1073741789 → VerIs (P : Int) D (r : Int) (x : Int) (decide (x = z)) by
      intro x hx
      rw [hP', hr', hz']
      exact ver_is n D n1 n2 hok.2 x hx)
    have hr0 : r ≠ 0 := by rw [hr']; exact base_pos (kN n D)
    have hzl : z < 1073741789 := by rw [hz']; exact zN_lt n D
    have hP2 := hide hP
    clear hP hP' hr' hz' hok hn
    have hrb : ((r : Int) == 0) = false := by simp; omega
    go_wp2_with fail
    refine (iPublicOf_any s _).mono ?_
    rintro e w' ⟨rfl, rfl⟩
    rw [unhide hP2]
    go_wp2_with fail
    refine (iVerify_any (P : Int) ad D.length cd D (r : Int) (z : Int) _ hD2 (unhide S3) ((unhide HM).keepB (unhide B3) h00)).mono ?_
    rintro e w4 ⟨⟨b, hv, rfl⟩, hb4⟩
    obtain rfl : b = true := (hv.one (unhide V z hzl)).trans (decide_eq_true rfl)
    have B4 := hide (bTr (unhide B3) hb4)
    have R4 := hide ((unhide R3).keep hb4)
    have T4 := hide ((unhide T3).keep hb4)
    clear hb4 hv B3 R3 T3 S3 c0 c1
    have c0 := (unhide R4).at (o := 0) (v := .int .i64 (r : Int)) rfl
    have c1 := (unhide R4).at (o := 1) (v := .int .i64 (z : Int)) rfl
    have f1 := (unhide R4).froz 1
    obtain ⟨Y, hY⟩ : ∃ Y : Nat, (z + 1 + len) % 1073741789 = Y := ⟨_, rfl⟩
    have hYc : ((z : Int) + 1 + (len : Int)) % 1073741789 = (Y : Int) := by omega
    have hYl : Y < 1073741789 := by omega
    clear hY
    go_wp2_with fail
    have R5 := hide ((unhide R4).set 1 (.int .i64 (Y : Int)))
    have G5 : Hid (But w2.heap.size w4 (w4.setCell ⟨w2.heap.size, 1, none⟩ (.int .i64 (Y : Int)))) := hide ((But.refl _ _).set _)
    have z4 := (unhide R4).lt
    have B5 := hide ((unhide B4).trans ((unhide G5).below zb3 (by omega)))
    have T5 := hide ((unhide T4).keepB ((unhide G5).below (Nat.le_refl _) (by omega)))
    clear c0 c1 f1 R4 B4 T4 G5
    obtain ⟨W5, hW5⟩ : ∃ W5, w4.setCell ⟨w2.heap.size, 1, none⟩ (.int .i64 (Y : Int)) = W5 := ⟨_, rfl⟩
    rw [hW5] at R5 B5 T5 ⊢
    clear hW5
    have z5 := (unhide R5).lt
    have ne : Nonempty (Kept W5) := ⟨⟨_, Below.refl _ _⟩⟩
    have d0 := fun k : Kept W5 => kept_cell (p := ⟨w2.heap.size, 0, none⟩) z5 ((unhide R5).at (o := 0) (v := .int .i64 (r : Int)) rfl) k
    have d1 := fun k : Kept W5 => kept_cell (p := ⟨w2.heap.size, 1, none⟩) z5 ((unhide R5).at (o := 1) (v := .int .i64 (Y : Int)) rfl) k
    obtain ⟨t, ht⟩ : ∃ t, decide (Y = z) = t := ⟨_, rfl⟩
    have hte : ((Y : Int) == (z : Int)) = t := by rw [← ht, Bool.eq_iff_iff, decide_eq_true_iff, beq_iff_eq]; omega
    have qv := hide (fun k : Kept W5 => (show Calls Tryd.prog 15 #[.int .i64 (P : Int), .slice ad D.length cd, .agg #[.int .i64 (r : Int), .int .i64 (Y : Int)]] k.w fun e w' => e = .returned (.bool t) ∧ Below k.w.heap.size k.w w' from (iVerify_any (P : Int) ad D.length cd D (r : Int) (Y : Int) k.w hD2 (((unhide T5).keep k.h).mono (Nat.le_trans (Nat.le_of_lt z5) k.h.size)) ((unhide HM).keepB (bTr (unhide B5) k.h) h00)).mono (by
      rintro e w' ⟨⟨b, hv, rfl⟩, hb'⟩
      exact ⟨by rw [hv.one (unhide V Y hYl), ht], hb'⟩)))
    have qs := hide (fun k : Kept W5 => (show Calls Tryd.prog 12 #[.int .i64 s, .slice ad D.length cd] k.w fun e w' => e = .returned (.agg #[.int .i64 (r : Int), .int .i64 (z : Int)]) ∧ Below k.w.heap.size k.w w' from (sSign_of s ad D.length cd D k.w hD2 (((unhide T5).keep k.h).mono (Nat.le_trans (Nat.le_of_lt z5) k.h.size))).mono (by
      rintro e w' ⟨r', z', hsg', rfl, hb'⟩
      obtain ⟨e1, e2⟩ := hsg.one hsg'
      exact ⟨by rw [e1, e2], hb'⟩)))
    clear ht
    have hfld : ∀ (x y : Int) (w : World), (Instr.field 26 (.agg #[.int .i64 x, .int .i64 y]) 1).run Tryd.prog w = .ok (.int .i64 y) w := fun _ _ _ => by kernel_rfl
    refine wp_region_kept (by kernel_rfl) (by kernel_rfl) ?_
    repeat (first
      | go_big_quiet_step (first | (go_at_call 15; exact kept_call (unhide qv _)) | (go_at_call 12; exact kept_call (unhide qs _)))
      | quiet_step (first | (go_at_call 15; exact kept_call (unhide qv _)) | (go_at_call 12; exact kept_call (unhide qs _))))
    refine wpQuiet_nil ?_
    rintro _ ⟨k, rfl⟩
    clear ne d0 d1 qv qs hfld
    obtain ⟨w6, hb6⟩ := k
    show Exit.then _ _ _ _ w6
    have B6 := hide (bTr (unhide B5) hb6)
    clear hb6
    go_wp2_with fail
    go_ret
    exact ⟨ret_bool (by simp), unhide B6⟩
  · obtain ⟨e1, e2⟩ := sg_no hok
    have hr' : r = 0 := by rw [hsg.r, e1]
    have hz' : z = 0 := by rw [hsg.z, e2]
    subst hr' hz'
    clear e1 e2 hok
    have hP2 := hide hP
    clear hP
    go_wp2_with fail
    have ne : Nonempty (Kept w3) := ⟨⟨_, Below.refl _ _⟩⟩
    have d0 := fun k : Kept w3 => kept_cell (p := ⟨w2.heap.size, 0, none⟩) (unhide R3).lt c0 k
    have d1 := fun k : Kept w3 => kept_cell (p := ⟨w2.heap.size, 1, none⟩) (unhide R3).lt c1 k
    have q14 := hide (fun w => sPublicOf_any s w)
    rw [unhide hP2] at q14
    have qv := hide (fun k : Kept w3 => (show Calls Tryd.prog 15 #[.int .i64 (P : Int), .slice ad D.length cd, .agg #[.int .i64 0, .int .i64 0]] k.w fun e w' => e = .returned (.bool false) ∧ Below k.w.heap.size k.w w' from (iVerify_any (P : Int) ad D.length cd D 0 0 k.w hD2 (((unhide S3).keep k.h).mono k.h.size) ((unhide HM).keepB (bTr (unhide B3) k.h) h00)).mono (by
      rintro e w' ⟨⟨b, hv, rfl⟩, hb'⟩
      have hv0 : VerIs (P : Int) D 0 0 false := VerIs.no (fun h => by have := h.2.2.1; omega)
      exact ⟨by rw [hv.one hv0], hb'⟩)))
    clear c0 c1
    refine wp_region_kept (by kernel_rfl) (by kernel_rfl) ?_
    repeat (first
      | go_big_quiet_step (first | (go_at_call 15; exact kept_call (unhide qv _)) | (go_at_call 14; exact kept_same (unhide q14 _)))
      | quiet_step (first | (go_at_call 15; exact kept_call (unhide qv _)) | (go_at_call 14; exact kept_same (unhide q14 _))))
    refine wpQuiet_nil ?_
    rintro _ ⟨k, rfl⟩
    clear ne d0 d1 qv q14
    obtain ⟨w4, hb4⟩ := k
    show Exit.then _ _ _ _ w4
    have B4 := hide (bTr (unhide B3) hb4)
    clear hb4
    go_wp2_with fail
    go_ret
    exact ⟨rfl, unhide B4⟩

set_option maxRecDepth 100000 in
theorem lifted (os : Os) (started : os.Started) (H : Type) (enc : TypeId × Value → H) :
    ReturnsInHanded {} Tryd.checked os 3 .any (fun w args => (Rows.fnSignedSpec.pre enc Tryd.prog Tryd.f3 [] false w args ∧ laidMetH Tryd.prog [("loop.example/g00036/impl.multipliers", Rows.laid_loop_example_g00036_impl_multipliers)] w) ∧ sizedMet enc Tryd.prog Tryd.f3 (OpenSpec.ofChange Rows.fnSignedSpec) false w args)
      (Rows.fnSignedSpec.post enc Tryd.prog Tryd.f3 false true false false) := by
  refine returnsInHanded_of_change_and (C := Tryd.checked) (X := fun w _ => laidMetH Tryd.prog [("loop.example/g00036/impl.multipliers", Rows.laid_loop_example_g00036_impl_multipliers)] w) (fun _ _ _ hh h => h.of_heap hh) own started (by kernel_rfl) Tryd.func3
    (ChangeSpec.witness_shaped (enc := enc) (C := Tryd.checked) (os := os) (X := fun w _ => laidMetH Tryd.prog [("loop.example/g00036/impl.multipliers", Rows.laid_loop_example_g00036_impl_multipliers)] w) false (World.doorLaid Tryd.prog 400 os) #[.slice none 0 0] 8 rfl (World.shaped_of_RefB (by kernel_rfl) (by kernel_rfl)) (by kernel_rfl) (by kernel_rfl) (by kernel_rfl) (door_met os _)) ?_
  intro W base args ds gs before hval0 hW _ _ hL _
  have hval : ∀ (j : Nat) t v, Tryd.f3.params[j]? = some t → args[j]? = some v → Value.okWide Tryd.prog W .any base t v := hval0
  have hW' := hW
  obtain ⟨p, q, hA0, hV0, rfl, hfz, hnd⟩ := hW
  have hA : DataW.TrodAll enc Tryd.prog W 0 (fun _ => true) true Tryd.f3.params.toList args.toList ds p := hA0
  have hV : DataW.TrodVars enc Tryd.prog W (fun _ => true) ["loop.example/g00036/impl.multipliers"] gs q := hV0
  rw [Tryd.params3] at hA hval
  obtain ⟨v0, vs0, d0, ds0, p0, q0, hargs, rfl, rfl, h0, r0⟩ := trodAll_cons hA
  obtain ⟨rfl, rfl, rfl⟩ := trodAll_nil r0
  obtain rfl : args = #[v0] := by cases args; simp_all
  obtain ⟨g, t, cs, fuel, d, p', rfl, hg, ht, hvar, hd, rfl⟩ := trodVars_one hV
  obtain rfl := Option.some.inj (gMul.symm.trans hg)
  obtain rfl := Option.some.inj (tMul.symm.trans ht)
  obtain rfl : cs = cellsM := Option.some.inj (hvar.symm.trans (cells_of_laid hL))
  obtain ⟨rfl, rfl⟩ := DataW.Trod.unique (v := .agg cellsM) ⟨fuel, hd⟩ ⟨3, reads_mul enc W _⟩
  obtain ⟨a0, len0, cap0, rfl⟩ := okWide_slice Tryd.underlying22 (hval 0 22 v0 rfl rfl)
  have k0 := h0
  have lt0 : ∀ x ∈ p0, x.block < W.heap.size := by obtain ⟨m, hm⟩ := k0; exact DataW.trod_lt m _ _ _ hm
  obtain ⟨z0, w0⟩ : ∃ zs, IsRow .u8 W a0 len0 cap0 zs := by
    obtain ⟨fuel, hf⟩ := h0
    rcases open_ints Tryd.underlying22 Tryd.underlying5 (by kernel_rfl) hf with ⟨hcs, _⟩ | ⟨x, l, c, zs, hcs, _, hl, hm, hz, _, hcell, hwz⟩
    · simp [Value.cells] at hcs
      obtain ⟨rfl, rfl, rfl⟩ := hcs
      exact ⟨[], .inl ⟨rfl, rfl, rfl, rfl⟩⟩
    · simp [Value.cells] at hcs
      obtain ⟨rfl, rfl, rfl⟩ := hcs
      exact ⟨zs, .inr ⟨_, rfl, hl, hm, by simpa using hz, hcell, hwz⟩⟩
  clear hA0 hV0 hval0
  have hM := mults_of (cells_of_laid hL)
  refine (walk a0 len0 cap0 z0 W w0 hM).mono fun e W' ⟨he, bel⟩ => ?_
  subst he
  exact ⟨_, rfl, _, _, _, [], _, _, hW', trodAll_mk1 (shut_bool Tryd.underlying4 _), (trodAll_cons_mk (Below.trod laidOut (by kernel_rfl) (of_decide_eq_true (by kernel_rfl)) k0 bel lt0) trodAll_mk0), vars_kept enc (cells_of_laid hL) hM.1 bel, bel.frame _, fun h => by cases h⟩

theorem row : Rows.FnSignedSaid :=
  OpenClaim.holds_of_wide 3 Tryd.f3 rfl rfl rfl rfl rfl rfl rfl ⟨rfl, rfl, rfl, rfl, rfl⟩ rfl rfl rfl rfl rfl (by kernel_rfl) Tryd.func3 (by kernel_rfl)
    (of_decide_eq_true (by kernel_rfl)) (by unfold Func.isWrapper; first | (rw [if_pos (by decide +kernel)]; kernel_rfl) | (rw [if_neg (by decide +kernel)]; exact ⟨rfl, rfl⟩))
    (fun os started H enc _ => lifted os started H enc)
theorem card : Rows.FnSignedCardSaid :=
  Claim7.holds_tied_plain_at .later [] [.data] true (true, "4d4ec08cc399d53a7ca90ccacaa052f760e0b328250ac90dfbc256b2473df321") false
    row (fun _ h => by cases h) (by kernel_rfl) (fun _ h => by cases h) fnSigned_row_tie rfl ⟨rfl, rfl⟩ (by kernel_rfl) rfl
    (fun f fn hf hfn => by
      obtain rfl : f = 3 := Option.some.inj ((show Tryd.prog.funcNamed "loop.example/g00036/laws.FnSigned" = some 3 by kernel_rfl).symm.trans hf) |>.symm
      obtain rfl : fn = Tryd.f3 := (Option.some.inj (Tryd.func3.symm.trans hfn)).symm
      exact ⟨by kernel_rfl, fun j t ht => by
        rw [Tryd.params3] at ht
        have hm : t ∈ [22] := by simpa using Array.mem_of_getElem? ht
        have hall : ([22].all fun u => !Tryd.prog.wantsStandIn u) = true := by kernel_rfl
        exact (show Tryd.prog.wantsStandIn t = false by simpa using List.all_eq_true.1 hall t hm)⟩)
    (by kernel_rfl)
end Go.Proofs.YtcgodelkanifbaaDoor.fnSigned
namespace Go.Proofs.YtcgodelkanifbaaDoor
theorem fnSigned_holds : Rows.FnSignedCardSaid := fnSigned.card
end Go.Proofs.YtcgodelkanifbaaDoor
