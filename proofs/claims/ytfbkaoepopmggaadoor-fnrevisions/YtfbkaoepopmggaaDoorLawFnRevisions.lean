/- The row and the card of laws.FnRevisions: its walk, then the row's step. -/
import Derived.Test.YtfbkaoepopmggaaDoorRows
import Derived.Test.YtfbkaoepopmggaaDoorCards
import Derived.Test.YtfbkaoepopmggaaDoorTie
import Derived.Test.YtfbkaoepopmggaaDoorDLk
import Derived.Test.YtfbkaoepopmggaaDoorDRev
import Derived.WalkKit
import Derived.ProofKit
import Derived.OpenShut
import Derived.ShutString
import Derived.ChangeOld
import Derived.Below
import Derived.Lib.SmallJoins
import Derived.LaidMore
import Derived.ChangeVars
import Derived.SevenTiedAt
import Derived.Stop.Joined
import Derived.ChangeMaps5
namespace Go.Proofs.YtfbkaoepopmggaaDoor.D.fnRevisions
open Go.ChangeShapes Go.WideShapes Go.ChangeAt Go.RowKit Go.Joins
open Go.ChangeMaps (open_string shut_string)
set_option linter.unusedVariables false
set_option maxRecDepth 100000

theorem code_later {w w' : World} {a : Option Addr} {len : Nat} (h : CodeAt w w.heap.size a len) (hb : Below w.heap.size w w') : CodeAt w' w'.heap.size a len := by
  refine ⟨h.1, ?_⟩
  rcases h.2 with e | ⟨blk, off, e, z, n, r⟩
  · exact .inl e
  · have := hb.size
    refine .inr ⟨blk, off, e, by omega, by omega, fun i hi => ?_⟩
    obtain ⟨x, h1, h2, h3⟩ := r i hi
    exact ⟨x, h1, h2, cellB hb z h3⟩

set_option maxHeartbeats 1000000 in
theorem walk (a : Option Addr) (len cap : Nat) (zs : List Int) (w : World) (hr : IsRow .u8 w a len cap zs) (hL : laidMetH Tryd.prog D.laid6 w) :
    Calls Tryd.prog 3 #[.slice a len cap] w fun e w' => e = .returned (.bool true) ∧ Below w.heap.size w w' := by
  have HM := hide (mults_of (cells_of_laid6 hL))
  have HT := hide (tab_of_laid6 hL)
  have HE := hide (errs_of_laid6 hL)
  have hco := code_of hr
  have hlm : len ≤ maxLen := hco.1
  unfold maxLen at hlm
  have HC := hide hco
  clear hL hr hco
  by_cases hz : 1048576 < len
  · go_enter Tryd.func3, Tryd.ntmps3
    go_wp2_with fail
    go_ret
    exact ⟨rfl, Below.refl _ _⟩
  go_enter Tryd.func3, Tryd.ntmps3
  go_wp2_with fail
  refine (drawTokenOf_any a len cap _ (unhide HC)).mono ?_
  rintro e w1 ⟨⟨s, rev, s0, s1, v0, v1, rfl⟩, hb1⟩
  have HM1 := hide ((unhide HM).keepB hb1 (unhide HM).1)
  have HT1 := hide ((unhide HT).keep hb1)
  have HE1 := hide ((unhide HE).keep hb1)
  have B1 := hide hb1
  clear hb1
  obtain ⟨T, hT⟩ : ∃ T, tokT s rev = T := ⟨_, rfl⟩
  have q2 := hide (fun w x y => iTokenOf_any s rev w (by omega) (by omega) x y)
  have q3 := hide (fun w => sTokenOf_any s rev w (by omega) (by omega))
  rw [hT] at q2 q3
  go_wp2_with fail
  refine (unhide q2 _ (unhide HM1) (unhide HT1)).mono ?_
  rintro e w2 ⟨rfl, hb2⟩
  have HM2 := hide ((unhide HM1).keepB hb2 (unhide HM1).1)
  have HT2 := hide ((unhide HT1).keep hb2)
  have HE2 := hide ((unhide HE1).keep hb2)
  have B2 := hide (bTr (unhide B1) hb2)
  clear hb2 HM1 HT1 HE1 B1
  go_wp2_with fail
  refine (unhide q3 _).mono ?_
  rintro e w3 ⟨rfl, hb3⟩
  have HM3 := hide ((unhide HM2).keepB hb3 (unhide HM2).1)
  have HT3 := hide ((unhide HT2).keep hb3)
  have HE3 := hide ((unhide HE2).keep hb3)
  have B3 := hide (bTr (unhide B2) hb3)
  clear hb3 HM2 HT2 HE2 B2 q2 q3
  have zT : T.size ≤ 200 := by
    rw [← hT]
    unfold tokT
    split
    · exact tok_size _ _ (by omega) (by omega)
    · exact Nat.zero_le _
  have hread := hide (show ∀ r b, T ≠ ⟨#[]⟩ → TokIs s T r b → r = rev ∧ b = true from fun r b hne h => h.uniq (⟨fun _ => ⟨hne, hT, by omega, by omega⟩, fun h => (by cases h)⟩ : TokIs s T rev true))
  clear hT
  have q4 := hide (fun w x y z => iReadToken_any s T w (by omega) x y z)
  have rest := hide (show ∀ (wx : World), Below w.heap.size w wx → ∀ (k : Int) (u : ByteArray), 0 ≤ k → k ≤ 100000 → u.size ≤ 1000 → (Calls Tryd.prog 9 #[.int .i64 k, .string u] wx fun e w' => TokRet k u e ∧ Below wx.heap.size wx w') from fun wx hb k u k0 k1 zu =>
    iReadToken_any k u wx (by omega) ((unhide HM).keepB hb (unhide HM).1) ((unhide HT).keep hb) ((unhide HE).keep hb))
  by_cases he : T = ⟨#[]⟩
  · subst he
    go_wp2_with fail
    refine (drawReadToken_any a len cap _ (code_later (unhide HC) (unhide B3))).mono ?_
    rintro e w4 ⟨⟨k, u, k0, k1, zu, rfl⟩, hb4⟩
    have B4 := hide (bTr (unhide B3) hb4)
    clear hb4 B3
    go_wp2_with fail
    refine (unhide rest _ (unhide B4) k u k0 k1 zu).mono ?_
    rintro e w5 ⟨⟨n, b, rfl, h5⟩, hb5⟩
    have H5 := hide h5
    have B5 := hide (bTr (unhide B4) hb5)
    clear h5 hb5 B4
    go_wp2_with fail
    refine (sReadToken_any k u _ (by omega)).mono ?_
    rintro e w6 ⟨⟨n2, b2, rfl, h6⟩, hb6⟩
    obtain ⟨rfl, rfl⟩ := (unhide H5).uniq h6
    have B6 := hide (bTr (unhide B5) hb6)
    have HM6 := hide ((unhide HM).keepB (unhide B6) (unhide HM).1)
    have HT6 := hide ((unhide HT).keep (unhide B6))
    clear h6 hb6 B5
    cases b with
    | false =>
      go_wp2_with fail
      go_ret
      exact ⟨rfl, unhide B6⟩
    | true =>
      obtain ⟨_, hU, n0, n1⟩ := (unhide H5).yes rfl
      have q7 := hide (fun w x y => iTokenOf_any k n w n0 n1 x y)
      rw [hU] at q7
      go_wp2_with fail
      refine (unhide q7 _ (unhide HM6) (unhide HT6)).mono ?_
      rintro e w7 ⟨rfl, hb7⟩
      have B7 := hide (bTr (unhide B6) hb7)
      go_wp2_with fail
      go_ret
      exact ⟨rfl, unhide B7⟩
  · have he2 : ¬ T.toList = [] := fun e => he (by rw [ByteArray.toList_eq] at e; rw [← mk_list T, e])
    have he3 : T.toList.isEmpty = false := by simpa using he2
    go_wp2_with fail
    refine (unhide q4 _ (unhide HM3) (unhide HT3) (unhide HE3)).mono ?_
    rintro e w4 ⟨⟨n0, b0, rfl, h4⟩, hb4⟩
    obtain ⟨rfl, rfl⟩ := unhide hread _ _ he h4
    have B4 := hide (bTr (unhide B3) hb4)
    clear hb4 B3 h4
    go_wp2_with fail
    refine (drawReadToken_any a len cap _ (code_later (unhide HC) (unhide B4))).mono ?_
    rintro e w5 ⟨⟨k, u, k0, k1, zu, rfl⟩, hb5⟩
    have B5 := hide (bTr (unhide B4) hb5)
    clear hb5 B4
    go_wp2_with fail
    refine (unhide rest _ (unhide B5) k u k0 k1 zu).mono ?_
    rintro e w6 ⟨⟨n, b, rfl, h6⟩, hb6⟩
    have H6 := hide h6
    have B6 := hide (bTr (unhide B5) hb6)
    clear h6 hb6 B5
    go_wp2_with fail
    refine (sReadToken_any k u _ (by omega)).mono ?_
    rintro e w7 ⟨⟨n2, b2, rfl, h7⟩, hb7⟩
    obtain ⟨rfl, rfl⟩ := (unhide H6).uniq h7
    have B7 := hide (bTr (unhide B6) hb7)
    have HM7 := hide ((unhide HM).keepB (unhide B7) (unhide HM).1)
    have HT7 := hide ((unhide HT).keep (unhide B7))
    clear h7 hb7 B6
    cases b with
    | false =>
      go_wp2_with fail
      go_ret
      exact ⟨rfl, unhide B7⟩
    | true =>
      obtain ⟨_, hU, n0, n1⟩ := (unhide H6).yes rfl
      have q8 := hide (fun w x y => iTokenOf_any k n w n0 n1 x y)
      rw [hU] at q8
      go_wp2_with fail
      refine (unhide q8 _ (unhide HM7) (unhide HT7)).mono ?_
      rintro e w8 ⟨rfl, hb8⟩
      have B8 := hide (bTr (unhide B7) hb8)
      go_wp2_with fail
      go_ret
      exact ⟨rfl, unhide B8⟩

theorem lifted (os : Os) (started : os.Started) (H : Type) (enc : TypeId × Value → H) :
    ReturnsInHanded {} Tryd.checked os 3 .any (fun w args => (Rows.fnRevisionsSpec.pre enc Tryd.prog Tryd.f3 [] false w args ∧ laidMetH Tryd.prog D.laid6 w) ∧ sizedMet enc Tryd.prog Tryd.f3 (OpenSpec.ofChange Rows.fnRevisionsSpec) false w args)
      (Rows.fnRevisionsSpec.post enc Tryd.prog Tryd.f3 false true false false) := by
  refine returnsInHanded_of_change_and (C := Tryd.checked) (X := fun w _ => laidMetH Tryd.prog D.laid6 w) (fun _ _ _ hh h => h.of_heap hh) own started (by kernel_rfl) Tryd.func3
    (ChangeSpec.witness_shaped (enc := enc) (C := Tryd.checked) (os := os) (X := fun w _ => laidMetH Tryd.prog D.laid6 w) false (World.doorLaid Tryd.prog 400 os) #[.slice none 0 0] 8 rfl (World.shaped_of_RefB (by kernel_rfl) (by kernel_rfl)) (by kernel_rfl) (by kernel_rfl) (by kernel_rfl) (door_met6 os _)) ?_
  intro W base args ds gs before hval0 hW _ _ hL _
  have hval : ∀ (j : Nat) t v, Tryd.f3.params[j]? = some t → args[j]? = some v → Value.okWide Tryd.prog W .any base t v := hval0
  have hW' := hW
  obtain ⟨p, q, hA0, hV0, rfl, hfz, hnd⟩ := hW
  have hA : DataW.TrodAll enc Tryd.prog W 0 (fun _ => true) true Tryd.f3.params.toList args.toList ds p := hA0
  have hV : DataW.TrodVars enc Tryd.prog W (fun _ => true) ["loop.example/g00036/impl.multipliers"] gs q := hV0
  rw [Tryd.params3] at hA hval
  obtain ⟨v0, vs0, d0, ds0, p0, q0, hargs, rfl, rfl, h0, r0⟩ := trodAll_cons hA
  obtain ⟨rfl, rfl, rfl⟩ := trodAll_nil r0
  obtain rfl : args = #[v0] := by cases args; simp_all
  obtain ⟨g, t, cs, fuel, d, p', rfl, hg, ht, hvar, hd, rfl⟩ := trodVars_one hV
  obtain rfl := Option.some.inj (gMul.symm.trans hg)
  obtain rfl := Option.some.inj (tMul.symm.trans ht)
  obtain rfl : cs = cellsM := Option.some.inj (hvar.symm.trans (cells_of_laid6 hL))
  obtain ⟨rfl, rfl⟩ := DataW.Trod.unique (v := .agg cellsM) ⟨fuel, hd⟩ ⟨3, reads_mul enc W _⟩
  obtain ⟨a0, len0, cap0, rfl⟩ := okWide_slice Tryd.underlying22 (hval 0 22 v0 rfl rfl)
  have k0 := h0
  have lt0 : ∀ x ∈ p0, x.block < W.heap.size := by obtain ⟨m, hm⟩ := k0; exact DataW.trod_lt m _ _ _ hm
  obtain ⟨z0, w0⟩ : ∃ zs, IsRow .u8 W a0 len0 cap0 zs := by
    obtain ⟨fuel, hf⟩ := h0
    rcases open_ints Tryd.underlying22 Tryd.underlying5 (by kernel_rfl) hf with ⟨hcs, _⟩ | ⟨x, l, c, zs, hcs, _, hl, hm, hz, _, hcell, hwz⟩
    · simp [Value.cells] at hcs
      obtain ⟨rfl, rfl, rfl⟩ := hcs
      exact ⟨[], .inl ⟨rfl, rfl, rfl, rfl⟩⟩
    · simp [Value.cells] at hcs
      obtain ⟨rfl, rfl, rfl⟩ := hcs
      exact ⟨zs, .inr ⟨_, rfl, hl, hm, by simpa using hz, hcell, hwz⟩⟩
  clear hA0 hV0 hval0
  have hM := mults_of (cells_of_laid6 hL)
  refine (walk a0 len0 cap0 z0 W w0 hL).mono fun e W' ⟨he, bel⟩ => ?_
  subst he
  exact ⟨_, rfl, _, _, _, [], _, _, hW', trodAll_mk1 (shut_bool Tryd.underlying4 _), (trodAll_cons_mk (Below.trod laidOut (by kernel_rfl) (of_decide_eq_true (by kernel_rfl)) k0 bel lt0) trodAll_mk0), vars_kept enc (cells_of_laid6 hL) hM.1 bel, bel.frame _, fun h => by cases h⟩

theorem row : Rows.FnRevisionsSaid :=
  OpenClaim.holds_of_wide 3 Tryd.f3 rfl rfl rfl rfl rfl rfl rfl ⟨rfl, rfl, rfl, rfl, rfl⟩ rfl rfl rfl rfl rfl (by kernel_rfl) Tryd.func3 (by kernel_rfl)
    (of_decide_eq_true (by kernel_rfl)) (by unfold Func.isWrapper; first | (rw [if_pos (by decide +kernel)]; kernel_rfl) | (rw [if_neg (by decide +kernel)]; exact ⟨rfl, rfl⟩))
    (fun os started H enc _ => lifted os started H enc)
theorem card : Rows.FnRevisionsCardSaid :=
  Claim7.holds_tied_plain_at .later [] [.data, .data, .data, .sentinel, .sentinel, .data] true (true, "3949481afb3f70e378525bd3f00d5099b9b0d69ba8660796893b2915b9441ce7") true
    row (fun _ h => by cases h) (by kernel_rfl) (fun _ h => by cases h) fnRevisions_row_tie rfl ⟨rfl, rfl⟩ (by kernel_rfl) rfl
    (fun f fn hf hfn => by
      obtain rfl : f = 3 := Option.some.inj ((show Tryd.prog.funcNamed "loop.example/g00036/laws.FnRevisions" = some 3 by kernel_rfl).symm.trans hf) |>.symm
      obtain rfl : fn = Tryd.f3 := (Option.some.inj (Tryd.func3.symm.trans hfn)).symm
      exact ⟨by kernel_rfl, fun j t ht => by
        rw [Tryd.params3] at ht
        have hm : t ∈ [22] := by simpa using Array.mem_of_getElem? ht
        have hall : ([22].all fun u => !Tryd.prog.wantsStandIn u) = true := by kernel_rfl
        exact (show Tryd.prog.wantsStandIn t = false by simpa using List.all_eq_true.1 hall t hm)⟩)
    (by kernel_rfl)
end Go.Proofs.YtfbkaoepopmggaaDoor.D.fnRevisions
namespace Go.Proofs.YtfbkaoepopmggaaDoor
theorem fnRevisions_holds : Rows.FnRevisionsCardSaid := D.fnRevisions.card
end Go.Proofs.YtfbkaoepopmggaaDoor
