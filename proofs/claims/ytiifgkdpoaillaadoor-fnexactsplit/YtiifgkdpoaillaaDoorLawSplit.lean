/- The row and the card of laws.FnExactSplit: its walk, then the row's step. -/
import Derived.Test.YtiifgkdpoaillaaDoorRows
import Derived.Test.YtiifgkdpoaillaaDoorCards
import Derived.Test.YtiifgkdpoaillaaDoorTie
import Derived.Test.YtiifgkdpoaillaaDoorDLawKit
import Derived.Test.YtiifgkdpoaillaaDoorPsS
import Derived.Test.YtiifgkdpoaillaaDoorDIn
import Derived.Test.YtiifgkdpoaillaaDoorDMark
import Derived.Test.YtiifgkdpoaillaaDoorDLawKit
import Derived.WalkKit
import Derived.ProofKit
import Derived.OpenShut
import Derived.ShutString
import Derived.ChangeOld
import Derived.Below
import Derived.Lib.SmallJoins
import Derived.LaidMore
import Derived.ChangeVars
import Derived.SevenTiedAt
import Derived.Stop.Joined
namespace Go.Proofs.YtiifgkdpoaillaaDoor.D.fnExactSplit
open Go.ChangeShapes Go.WideShapes Go.ChangeAt Go.RowKit Go.Joins
set_option linter.unusedVariables false

theorem own_butE {w w' : World} {base n z e size : Nat} {v : Value} {xs : List Value} (h : w.ownsRow base e size v n xs) (hb : But z w w') (hn : ∀ g, v.ownBlock = some g → g ≠ z) : w'.ownsRow base e size v n xs := by
  refine ⟨h.1, h.2.imp_right ?_⟩
  rintro ⟨g, cap, cur, e', h1, hh, r⟩
  exact ⟨g, cap, cur, e', h1, hb.row (T := e) hh (hn g (by rw [e']; rfl)), r⟩
set_option maxRecDepth 100000 in
set_option maxHeartbeats 1000000 in
theorem walk (s many need : Int) (a : Option Addr) (len cap : Nat) (zs : List Int) (w : World) (_ : (Lit.int .i64 s).wf = true) (_ : (Lit.int .i64 many).wf = true) (_ : (Lit.int .i64 need).wf = true) (hr : IsRow .u8 w a len cap zs) (hM : Mults w) :
    Calls Tryd.prog 3 #[.int .i64 s, .int .i64 many, .int .i64 need, .slice a len cap] w fun e w' => e = .returned (.bool true) ∧ Below w.heap.size w w' := by
  obtain ⟨⟨l, hs⟩, hc, hm⟩ := bytes_in hr
  clear hr
  have hl : len ≤ maxLen := Nat.le_trans hc hm
  unfold maxLen at hl
  have HS := hide hs
  have hll := hide hs.1
  have HM := hide hM
  have h00 := hM.1
  clear hs hc hm hM
  by_cases h1 : (1048576 : Int) < (len : Int)
  · go_enter Tryd.func3, Tryd.ntmps3
    go_wp2_with fail
    go_ret
    exact ⟨rfl, Below.refl _ _⟩
  have h1' : len ≤ 1048576 := by omega
  clear hl
  go_enter Tryd.func3, Tryd.ntmps3
  go_wp2_with fail
  refine (toByteS_any a len cap l _ h1' (unhide HS)).mono ?_
  rintro e w1 ⟨rfl, hr1, hb1⟩
  have B1 := hide hb1
  have S1 := hide (slB_row hr1 hr1.lt)
  rw [← unhide hll] at S1
  clear hr1 hb1
  go_wp2_with fail
  refine (sSplit_any s many need _ len _ l _ h1' (unhide S1)).mono ?_
  rintro e w2 ⟨⟨v2, r, rfl, hP, ho2⟩, hb2⟩
  have O2 := hide ho2
  have hi2 := hide (fun g hg => (ho2.lt g hg).2)
  have PW := hide hP
  have rl := hP.len
  have B2 := hide (bTr (unhide B1) hb2)
  have z2 := (unhide B2).size
  clear hb2 S1 B1 ho2 hP
  go_wp2_with fail
  refine (toByteS_any a len cap l _ h1' (((unhide HS).keep (unhide B2)).mono (unhide B2).size)).mono ?_
  rintro e w3 ⟨rfl, hr3, hb3⟩
  have B3 := hide (bTr (unhide B2) hb3)
  have O3 := hide (own_kB (unhide O2) hb3)
  have R3 := hide hr3
  have z3 := hr3.lt
  have X3 := hide (slB_row hr3 hr3.lt)
  rw [← unhide hll] at X3
  clear hr3 hb3 B2 O2
  have M3 := hide ((unhide HM).keepB (unhide B3) h00)
  go_wp2_with fail
  refine (iSplit_any s many need _ len _ l _ h1' (unhide X3) (unhide M3)).mono ?_
  rintro e w4 ⟨⟨v4, r4, rfl, hP4, ho4⟩, hb4⟩
  obtain rfl := hP4.uniq (unhide PW)
  have G4 := hide ho4
  have lo4 := hide (fun g hg => (ho4.lt g hg).1)
  have B4 := hide (bTr (unhide B3) hb4)
  have O4 := hide (own_kB (unhide O3) hb4)
  have R4 := hide ((unhide R3).keep hb4)
  have z4 := hb4.size
  clear hb4 O3 B3 R3 X3 ho4 hP4
  go_wp2_with fail
  refine (eqOwnShare (unhide G4) (unhide O4) (by omega)).mono ?_
  rintro e w5 ⟨rfl, hb5⟩
  have G5 := hide (own_kB (unhide G4) hb5)
  have O5 := hide (own_kB (unhide O4) hb5)
  have B5 := hide (bTr (unhide B4) hb5)
  have R5 := hide ((unhide R4).keep hb5)
  have z5 := hb5.size
  clear hb5 G4 O4 B4 R4
  go_wp2_with fail
  refine (toByteS_any a len cap l _ h1' (((unhide HS).keep (unhide B5)).mono (unhide B5).size)).mono ?_
  rintro e w6 ⟨rfl, hr6, hb6⟩
  have G6 := hide (own_kB (unhide G5) hb6)
  have O6 := hide (own_kB (unhide O5) hb6)
  have B6 := hide (bTr (unhide B5) hb6)
  have R6 := hide ((unhide R5).keep hb6)
  have X6 := hide (slB_row hr6 hr6.lt)
  have Z6 := hide (slB_row (unhide R6) (unhide R6).lt)
  rw [← unhide hll] at X6 Z6
  have z6 := hb6.size
  clear hr6 hb6 G5 O5 B5 R5
  go_wp2_with fail
  refine (eqByteS_any _ _ len len _ _ l l _ h1' h1' (unhide Z6) (unhide X6)).mono ?_
  rintro e w7 ⟨rfl, hb7⟩
  rw [decide_eq_true (rfl : l = l)]
  have G7 := hide (own_kB (unhide G6) hb7)
  have O7 := hide (own_kB (unhide O6) hb7)
  have B7 := hide (bTr (unhide B6) hb7)
  have R7 := hide ((unhide R6).keep hb7)
  have z7 := hb7.size
  clear hb7 G6 O6 B6 R6 X6 Z6
  go_wp2_with fail
  refine (mark_any w2.heap.size len len (cellsOf l) 1 _ h1' (by omega) (by omega) (by rw [unhide hll]; simp [cellsOf]) (unhide R7)).mono ?_
  rintro e w8 ⟨rfl, _, hb8⟩
  have G8 := hide (own_butE (unhide G7) hb8 (fun g hg => by have := unhide lo4 g hg; omega))
  have O8 := hide (own_butE (unhide O7) hb8 (fun g hg => by have := unhide hi2 g hg; omega))
  have B8 := hide ((unhide B7).trans (hb8.below z2 (unhide B7).size))
  have z8 := hb8.size
  clear hb8 G7 O7 B7 R7
  go_wp2_with fail
  refine (eqOwnShare (unhide G8) (unhide O8) (by omega)).mono ?_
  rintro e w9 ⟨rfl, hb9⟩
  have G9 := hide (own_kB (unhide G8) hb9)
  have O9 := hide (own_kB (unhide O8) hb9)
  have B9 := hide (bTr (unhide B8) hb9)
  have z9 := hb9.size
  clear hb9 G8 O8 B8
  obtain ⟨rn, hrn⟩ : ∃ rn, r4.length = rn := ⟨_, rfl⟩
  have qm := hide (markShare_own v4 r4.length 1 _ _ w9 (by omega) (by omega) (by omega) (unhide G9))
  have qh := hide (fun w h => heldShare_own v4 r4.length 1 w (by omega) (by omega) (by omega) h)
  rw [hrn] at qm qh
  obtain ⟨T, hT⟩ : ∃ T : Int, ((1 + rn * 2 : Nat) : Int) = T := ⟨_, rfl⟩
  rw [hT] at qm qh
  have T0 : 0 ≤ T := by omega
  have T1 : T ≤ 100 := by omega
  clear hT
  go_wp2_with fail
  refine (unhide qm).mono ?_
  rintro e w10 ⟨rfl, hM10, hg10⟩
  have M10 := hide hM10
  have hk : v2.ownBlock = none ∨ v2.ownBlock ≠ v4.ownBlock := by
    cases hv : v2.ownBlock with
    | none => exact .inl rfl
    | some g => right; intro e; have h1 := unhide hi2 g hv; have h2 := unhide lo4 g e.symm; omega
  have O10 := hide ((unhide O9).kept hg10 hk)
  have B10 := hide ((unhide B9).grown hg10 (by have := (unhide B9).size; omega) (fun j hj => by have := unhide lo4 j hj; have := (unhide B9).size; omega))
  clear hM10 hg10 hk O9 B9 G9 qm
  go_wp2_with fail
  refine (unhide qh _ (unhide M10)).mono ?_
  rintro e w11 ⟨rfl, hb11⟩
  have M11 := hide ((unhide M10).keep hb11)
  have O11 := hide (own_kB (unhide O10) hb11)
  have B11 := hide (bTr (unhide B10) hb11)
  clear hb11 M10 O10 B10
  go_wp2_with fail
  refine (toByteS_any a len cap l _ h1' (((unhide HS).keep (unhide B11)).mono (unhide B11).size)).mono ?_
  rintro e w12 ⟨rfl, hr12, hb12⟩
  have M12 := hide ((unhide M11).keep hb12)
  have O12 := hide (own_kB (unhide O11) hb12)
  have B12 := hide (bTr (unhide B11) hb12)
  have X12 := hide (slB_row hr12 hr12.lt)
  rw [← unhide hll] at X12
  clear hr12 hb12 M11 O11 B11
  have N12 := hide ((unhide HM).keepB (unhide B12) h00)
  go_wp2_with fail
  refine (iSplit_any s many need _ len _ l _ h1' (unhide X12) (unhide N12)).mono ?_
  rintro e w13 ⟨⟨v13, r13, rfl, hP13, ho13⟩, hb13⟩
  obtain rfl := hP13.uniq (unhide PW)
  have G13 := hide ho13
  have M13 := hide ((unhide M12).keep hb13)
  have O13 := hide (own_kB (unhide O12) hb13)
  have B13 := hide (bTr (unhide B12) hb13)
  clear hb13 M12 O12 B12 X12 N12 ho13 hP13
  go_wp2_with fail
  refine (eqOwnShare (unhide G13) (unhide O13) (by omega)).mono ?_
  rintro e w14 ⟨rfl, hb14⟩
  have M14 := hide ((unhide M13).keep hb14)
  have B14 := hide (bTr (unhide B13) hb14)
  clear hb14 M13 O13 B13 G13
  go_wp2_with fail
  refine (unhide qh _ (unhide M14)).mono ?_
  rintro e w15 ⟨rfl, hb15⟩
  have B15 := hide (bTr (unhide B14) hb15)
  clear hb15 M14 B14 qh
  go_wp2_with fail
  go_ret
  exact ⟨rfl, unhide B15⟩

set_option maxRecDepth 100000 in
theorem lifted (os : Os) (started : os.Started) (H : Type) (enc : TypeId × Value → H) :
    ReturnsInHanded {} Tryd.checked os 3 .any (fun w args => (Rows.fnExactSplitSpec.pre enc Tryd.prog Tryd.f3 [] false w args ∧ laidMetH Tryd.prog [("loop.example/g00036/impl.multipliers", Rows.laid_loop_example_g00036_impl_multipliers)] w) ∧ sizedMet enc Tryd.prog Tryd.f3 (OpenSpec.ofChange Rows.fnExactSplitSpec) false w args)
      (Rows.fnExactSplitSpec.post enc Tryd.prog Tryd.f3 false true false false) := by
  refine returnsInHanded_of_change_and (C := Tryd.checked) (X := fun w _ => laidMetH Tryd.prog [("loop.example/g00036/impl.multipliers", Rows.laid_loop_example_g00036_impl_multipliers)] w) (fun _ _ _ hh h => h.of_heap hh) own started (by kernel_rfl) Tryd.func3
    (ChangeSpec.witness_shaped (enc := enc) (C := Tryd.checked) (os := os) (X := fun w _ => laidMetH Tryd.prog [("loop.example/g00036/impl.multipliers", Rows.laid_loop_example_g00036_impl_multipliers)] w) false (World.doorLaid Tryd.prog 400 os) #[.int .i64 0, .int .i64 0, .int .i64 0, .slice none 0 0] 8 rfl (World.shaped_of_RefB (by kernel_rfl) (by kernel_rfl)) (by kernel_rfl) (by kernel_rfl) (by kernel_rfl) (door_met os _)) ?_
  intro W base args ds gs before hval0 hW _ _ hL _
  have hval : ∀ (j : Nat) t v, Tryd.f3.params[j]? = some t → args[j]? = some v → Value.okWide Tryd.prog W .any base t v := hval0
  have hW' := hW
  obtain ⟨p, q, hA0, hV0, rfl, hfz, hnd⟩ := hW
  have hA : DataW.TrodAll enc Tryd.prog W 0 (fun _ => true) true Tryd.f3.params.toList args.toList ds p := hA0
  have hV : DataW.TrodVars enc Tryd.prog W (fun _ => true) ["loop.example/g00036/impl.multipliers"] gs q := hV0
  rw [Tryd.params3] at hA hval
  obtain ⟨v0, vs0, d0, ds0, p0, q0, hargs, rfl, rfl, h0, r0⟩ := trodAll_cons hA
  obtain ⟨v1, vs1, d1, ds1, p1, q1, rfl, rfl, rfl, h1, r1⟩ := trodAll_cons r0
  obtain ⟨v2, vs2, d2, ds2, p2, q2, rfl, rfl, rfl, h2, r2⟩ := trodAll_cons r1
  obtain ⟨v3, vs3, d3, ds3, p3, q3, rfl, rfl, rfl, h3, r3⟩ := trodAll_cons r2
  obtain ⟨rfl, rfl, rfl⟩ := trodAll_nil r3
  obtain rfl : args = #[v0, v1, v2, v3] := by cases args; simp_all
  obtain ⟨g, t, cs, fuel, d, p', rfl, hg, ht, hvar, hd, rfl⟩ := trodVars_one hV
  obtain rfl := Option.some.inj (gMul.symm.trans hg)
  obtain rfl := Option.some.inj (tMul.symm.trans ht)
  obtain rfl : cs = cellsM := Option.some.inj (hvar.symm.trans (cells_of_laid hL))
  obtain ⟨rfl, rfl⟩ := DataW.Trod.unique (v := .agg cellsM) ⟨fuel, hd⟩ ⟨3, reads_mul enc W _⟩
  obtain ⟨a0, rfl, rfl, rfl, w0⟩ := open_int Tryd.underlying3 (hval 0 3 v0 rfl rfl) h0
  obtain ⟨a1, rfl, rfl, rfl, w1⟩ := open_int Tryd.underlying3 (hval 1 3 v1 rfl rfl) h1
  obtain ⟨a2, rfl, rfl, rfl, w2⟩ := open_int Tryd.underlying3 (hval 2 3 v2 rfl rfl) h2
  obtain ⟨a3, len3, cap3, rfl⟩ := okWide_slice Tryd.underlying22 (hval 3 22 v3 rfl rfl)
  have k3 := h3
  have lt3 : ∀ x ∈ p3, x.block < W.heap.size := by obtain ⟨m, hm⟩ := k3; exact DataW.trod_lt m _ _ _ hm
  obtain ⟨z3, w3⟩ : ∃ zs, IsRow .u8 W a3 len3 cap3 zs := by
    obtain ⟨fuel, hf⟩ := h3
    rcases open_ints Tryd.underlying22 Tryd.underlying5 (by kernel_rfl) hf with ⟨hcs, _⟩ | ⟨x, l, c, zs, hcs, _, hl, hm, hz, _, hcell, hwz⟩
    · simp [Value.cells] at hcs
      obtain ⟨rfl, rfl, rfl⟩ := hcs
      exact ⟨[], .inl ⟨rfl, rfl, rfl, rfl⟩⟩
    · simp [Value.cells] at hcs
      obtain ⟨rfl, rfl, rfl⟩ := hcs
      exact ⟨zs, .inr ⟨_, rfl, hl, hm, by simpa using hz, hcell, hwz⟩⟩
  clear hA0 hV0 hval0
  have hM := mults_of (cells_of_laid hL)
  refine (walk a0 a1 a2 a3 len3 cap3 z3 W w0 w1 w2 w3 hM).mono fun e W' ⟨he, bel⟩ => ?_
  subst he
  exact ⟨_, rfl, _, _, _, [], _, _, hW', trodAll_mk1 (shut_bool Tryd.underlying4 _), (trodAll_cons_mk (shut_int Tryd.underlying3 w0) (trodAll_cons_mk (shut_int Tryd.underlying3 w1) (trodAll_cons_mk (shut_int Tryd.underlying3 w2) (trodAll_cons_mk (Below.trod laidOut (by kernel_rfl) (of_decide_eq_true (by kernel_rfl)) k3 bel lt3) trodAll_mk0)))), vars_kept enc (cells_of_laid hL) hM.1 bel, bel.frame _, fun h => by cases h⟩

theorem row : Rows.FnExactSplitSaid :=
  OpenClaim.holds_of_wide 3 Tryd.f3 rfl rfl rfl rfl rfl rfl rfl ⟨rfl, rfl, rfl, rfl, rfl⟩ rfl rfl rfl rfl rfl (by kernel_rfl) Tryd.func3 (by kernel_rfl)
    (of_decide_eq_true (by kernel_rfl)) (by unfold Func.isWrapper; first | (rw [if_pos (by decide +kernel)]; kernel_rfl) | (rw [if_neg (by decide +kernel)]; exact ⟨rfl, rfl⟩))
    (fun os started H enc _ => lifted os started H enc)
theorem card : Rows.FnExactSplitCardSaid :=
  Claim7.holds_tied_plain_at .later [] [.data] true (true, "4a3cc6cbadae5cabdfc544c2a96a131f1a41f25f0ab5b4e55d4d8b7f8fa9f7d3") false
    row (fun _ h => by cases h) (by kernel_rfl) (fun _ h => by cases h) fnExactSplit_row_tie rfl ⟨rfl, rfl⟩ (by kernel_rfl) rfl
    (fun f fn hf hfn => by
      obtain rfl : f = 3 := Option.some.inj ((show Tryd.prog.funcNamed "loop.example/g00036/laws.FnExactSplit" = some 3 by kernel_rfl).symm.trans hf) |>.symm
      obtain rfl : fn = Tryd.f3 := (Option.some.inj (Tryd.func3.symm.trans hfn)).symm
      exact ⟨by kernel_rfl, fun j t ht => by
        rw [Tryd.params3] at ht
        have hm : t ∈ [3, 3, 3, 22] := by simpa using Array.mem_of_getElem? ht
        have hall : ([3, 3, 3, 22].all fun u => !Tryd.prog.wantsStandIn u) = true := by kernel_rfl
        exact (show Tryd.prog.wantsStandIn t = false by simpa using List.all_eq_true.1 hall t hm)⟩)
    (by kernel_rfl)
end Go.Proofs.YtiifgkdpoaillaaDoor.D.fnExactSplit
namespace Go.Proofs.YtiifgkdpoaillaaDoor
theorem fnExactSplit_holds : Rows.FnExactSplitCardSaid := D.fnExactSplit.card
end Go.Proofs.YtiifgkdpoaillaaDoor
