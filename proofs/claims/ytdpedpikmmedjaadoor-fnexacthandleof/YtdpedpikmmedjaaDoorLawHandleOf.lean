/- The row and the card of laws.FnExactHandleOf: its walk, then the row's step. -/
import Derived.Test.YtdpedpikmmedjaaDoorRows
import Derived.Test.YtdpedpikmmedjaaDoorCards
import Derived.Test.YtdpedpikmmedjaaDoorTie
import Derived.Test.YtdpedpikmmedjaaDoorDLk
import Derived.Test.YtdpedpikmmedjaaDoorKHa
import Derived.Test.YtdpedpikmmedjaaDoorDIn
import Derived.WalkKit
import Derived.ProofKit
import Derived.OpenShut
import Derived.ShutString
import Derived.ChangeOld
import Derived.Below
import Derived.Lib.SmallJoins
import Derived.LaidMore
import Derived.ChangeVars
import Derived.SevenTiedAt
import Derived.Stop.Joined
import Derived.ChangeMaps5
namespace Go.Proofs.YtdpedpikmmedjaaDoor.D.fnExactHandleOf
open Go.ChangeShapes Go.WideShapes Go.ChangeAt Go.RowKit Go.Joins
open Go.ChangeMaps (open_string shut_string)
set_option linter.unusedVariables false
set_option maxRecDepth 100000

set_option maxHeartbeats 4000000 in
theorem walk (a : Option Addr) (len cap : Nat) (zs : List Int) (kind : ByteArray) (n : Int) (w : World) (hr : IsRow .u8 w a len cap zs) (wk : kind.size ≤ maxLen) (wn : (Lit.int .i64 n).wf = true) (hL : laidMetH Tryd.prog D.laid4 w) :
    Calls Tryd.prog 4 #[.slice a len cap, .string kind, .int .i64 n] w fun e w' => e = .returned (.bool true) ∧ Below w.heap.size w w' := by
  obtain ⟨⟨l, hs⟩, hc, hm⟩ := bytes_in hr
  have hl : len ≤ maxLen := Nat.le_trans hc hm
  unfold maxLen at hl
  have HS := hide hs
  have hll := hide hs.1
  have HM := hide (mults_of (cells_of_laid4 hL))
  have HT := hide (tab_of_laid4 hL)
  have h00 := (unhide HM).1
  clear hr hs hc hm hL
  by_cases h1 : (1048576 : Int) < (len : Int)
  · go_enter Tryd.func4, Tryd.ntmps4
    go_wp2_with fail
    go_ret
    exact ⟨rfl, Below.refl _ _⟩
  have h1' : len ≤ 1048576 := by omega
  clear hl
  by_cases h2 : 1048576 < kind.size
  · go_enter Tryd.func4, Tryd.ntmps4
    go_wp2_with fail
    go_ret
    exact ⟨rfl, Below.refl _ _⟩
  have h2' : kind.size ≤ 1048576 := by omega
  have hb : -9223372036854775808 ≤ n ∧ n ≤ 9223372036854775807 := by
    have := wn; simp [Lit.wf, IntKind.min, IntKind.max, IntKind.signed, IntKind.bits] at this; omega
  obtain ⟨h8, h9⟩ := hb
  have qs := hide (fun a cap w hs => sHandleOf_any a len cap l kind n w h1' h2' hs h8 h9)
  have qi := hide (fun a cap w hs hM hT => iHandleOf_any a len cap l kind n w h1' h2' hs h8 h9 hM hT)
  generalize hdT len l kind n = T at qs qi
  clear wk wn h8 h9
  go_enter Tryd.func4, Tryd.ntmps4
  go_wp2_with fail
  refine (toByteS_any a len cap l w h1' (unhide HS)).mono ?_
  rintro e w1 ⟨rfl, r1, b1⟩
  have X1 := hide (slB_row r1 r1.lt)
  rw [← unhide hll] at X1
  have B1 := hide b1
  clear r1 b1
  go_wp2_with fail
  refine (unhide qs _ _ _ (unhide X1)).mono ?_
  rintro e w2 ⟨rfl, b2⟩
  have B2 := hide (bTr (unhide B1) b2)
  clear b2 B1 X1 qs
  go_wp2_with fail
  refine (toByteS_any a len cap l w2 h1' (((unhide HS).keepB (unhide B2)).mono (unhide B2).size)).mono ?_
  rintro e w3 ⟨rfl, r3, b3⟩
  have X3 := hide (slB_row r3 r3.lt)
  rw [← unhide hll] at X3
  have B3 := hide (bTr (unhide B2) b3)
  obtain ⟨g3, hg3⟩ : ∃ g, g = w2.heap.size := ⟨_, rfl⟩
  rw [← hg3] at X3 ⊢
  clear r3 b3 B2 hg3
  go_wp2_with fail
  refine (unhide qi _ _ _ (unhide X3) ((unhide HM).keepB (unhide B3) h00) (Tab.keep (unhide HT) (unhide B3))).mono ?_
  rintro e w4 ⟨rfl, b4⟩
  have B4 := hide (bTr (unhide B3) b4)
  replace X3 := hide (((unhide X3).keep b4).mono b4.size)
  clear b4 B3 qi
  go_wp2_with fail
  refine (toByteS_any a len cap l w4 h1' (((unhide HS).keepB (unhide B4)).mono (unhide B4).size)).mono ?_
  rintro e w5 ⟨rfl, r5, b5⟩
  have X5 := hide (slB_row r5 r5.lt)
  rw [← unhide hll] at X5
  have B5 := hide (bTr (unhide B4) b5)
  have qe := hide (eqByteS_any (some ⟨g3, 0, none⟩) (some ⟨w4.heap.size, 0, none⟩) len len len len l l w5 h1' h1' (((unhide X3).keep b5).mono b5.size) (unhide X5))
  rw [decide_eq_true (rfl : l = l)] at qe
  clear r5 b5 B4 X3 X5
  go_wp2_with fail
  refine (unhide qe).mono ?_
  rintro e w6 ⟨rfl, b6⟩
  have B6 := hide (bTr (unhide B5) b6)
  clear b6 qe
  go_wp2_with fail
  go_ret
  exact ⟨rfl, unhide B6⟩

theorem lifted (os : Os) (started : os.Started) (H : Type) (enc : TypeId × Value → H) :
    ReturnsInHanded {} Tryd.checked os 4 .any (fun w args => (Rows.fnExactHandleOfSpec.pre enc Tryd.prog Tryd.f4 [] false w args ∧ laidMetH Tryd.prog D.laid4 w) ∧ sizedMet enc Tryd.prog Tryd.f4 (OpenSpec.ofChange Rows.fnExactHandleOfSpec) false w args)
      (Rows.fnExactHandleOfSpec.post enc Tryd.prog Tryd.f4 false true false false) := by
  refine returnsInHanded_of_change_and (C := Tryd.checked) (X := fun w _ => laidMetH Tryd.prog D.laid4 w) (fun _ _ _ hh h => h.of_heap hh) own started (by kernel_rfl) Tryd.func4
    (ChangeSpec.witness_shaped (enc := enc) (C := Tryd.checked) (os := os) (X := fun w _ => laidMetH Tryd.prog D.laid4 w) false (World.doorLaid Tryd.prog 400 os) #[.slice none 0 0, .string ByteArray.empty, .int .i64 0] 8 rfl (World.shaped_of_RefB (by kernel_rfl) (by kernel_rfl)) (by kernel_rfl) (by kernel_rfl) (by kernel_rfl) (door_met4 os _)) ?_
  intro W base args ds gs before hval0 hW _ _ hL _
  have hval : ∀ (j : Nat) t v, Tryd.f4.params[j]? = some t → args[j]? = some v → Value.okWide Tryd.prog W .any base t v := hval0
  have hW' := hW
  obtain ⟨p, q, hA0, hV0, rfl, hfz, hnd⟩ := hW
  have hA : DataW.TrodAll enc Tryd.prog W 0 (fun _ => true) true Tryd.f4.params.toList args.toList ds p := hA0
  have hV : DataW.TrodVars enc Tryd.prog W (fun _ => true) ["loop.example/g00036/impl.multipliers"] gs q := hV0
  rw [Tryd.params4] at hA hval
  obtain ⟨v0, vs0, d0, ds0, p0, q0, hargs, rfl, rfl, h0, r0⟩ := trodAll_cons hA
  obtain ⟨v1, vs1, d1, ds1, p1, q1, rfl, rfl, rfl, h1, r1⟩ := trodAll_cons r0
  obtain ⟨v2, vs2, d2, ds2, p2, q2, rfl, rfl, rfl, h2, r2⟩ := trodAll_cons r1
  obtain ⟨rfl, rfl, rfl⟩ := trodAll_nil r2
  obtain rfl : args = #[v0, v1, v2] := by cases args; simp_all
  obtain ⟨g, t, cs, fuel, d, p', rfl, hg, ht, hvar, hd, rfl⟩ := trodVars_one hV
  obtain rfl := Option.some.inj (gMul.symm.trans hg)
  obtain rfl := Option.some.inj (tMul.symm.trans ht)
  obtain rfl : cs = cellsM := Option.some.inj (hvar.symm.trans (cells_of_laid4 hL))
  obtain ⟨rfl, rfl⟩ := DataW.Trod.unique (v := .agg cellsM) ⟨fuel, hd⟩ ⟨3, reads_mul enc W _⟩
  obtain ⟨a0, len0, cap0, rfl⟩ := okWide_slice Tryd.underlying24 (hval 0 24 v0 rfl rfl)
  have k0 := h0
  have lt0 : ∀ x ∈ p0, x.block < W.heap.size := by obtain ⟨m, hm⟩ := k0; exact DataW.trod_lt m _ _ _ hm
  obtain ⟨z0, w0⟩ : ∃ zs, IsRow .u8 W a0 len0 cap0 zs := by
    obtain ⟨fuel, hf⟩ := h0
    rcases open_ints Tryd.underlying24 Tryd.underlying5 (by kernel_rfl) hf with ⟨hcs, _⟩ | ⟨x, l, c, zs, hcs, _, hl, hm, hz, _, hcell, hwz⟩
    · simp [Value.cells] at hcs
      obtain ⟨rfl, rfl, rfl⟩ := hcs
      exact ⟨[], .inl ⟨rfl, rfl, rfl, rfl⟩⟩
    · simp [Value.cells] at hcs
      obtain ⟨rfl, rfl, rfl⟩ := hcs
      exact ⟨zs, .inr ⟨_, rfl, hl, hm, by simpa using hz, hcell, hwz⟩⟩
  obtain ⟨a1, rfl, rfl, rfl, w1⟩ := open_string Tryd.underlying9 (hval 1 9 v1 rfl rfl) h1
  obtain ⟨a2, rfl, rfl, rfl, w2⟩ := open_int Tryd.underlying3 (hval 2 3 v2 rfl rfl) h2
  clear hA0 hV0 hval0
  have hM := mults_of (cells_of_laid4 hL)
  refine (walk a0 len0 cap0 z0 a1 a2 W w0 w1 w2 hL).mono fun e W' ⟨he, bel⟩ => ?_
  subst he
  exact ⟨_, rfl, _, _, _, [], _, _, hW', trodAll_mk1 (shut_bool Tryd.underlying4 _), (trodAll_cons_mk (Below.trod laidOut (by kernel_rfl) (of_decide_eq_true (by kernel_rfl)) k0 bel lt0) (trodAll_cons_mk (shut_string Tryd.underlying9 w1) (trodAll_cons_mk (shut_int Tryd.underlying3 w2) trodAll_mk0))), vars_kept enc (cells_of_laid4 hL) hM.1 bel, bel.frame _, fun h => by cases h⟩

theorem row : Rows.FnExactHandleOfSaid :=
  OpenClaim.holds_of_wide 4 Tryd.f4 rfl rfl rfl rfl rfl rfl rfl ⟨rfl, rfl, rfl, rfl, rfl⟩ rfl rfl rfl rfl rfl (by kernel_rfl) Tryd.func4 (by kernel_rfl)
    (of_decide_eq_true (by kernel_rfl)) (by unfold Func.isWrapper; first | (rw [if_pos (by decide +kernel)]; kernel_rfl) | (rw [if_neg (by decide +kernel)]; exact ⟨rfl, rfl⟩))
    (fun os started H enc _ => lifted os started H enc)
theorem card : Rows.FnExactHandleOfCardSaid :=
  Claim7.holds_tied_plain_at .later [] [.data, .data, .data, .data] true (true, "f5948e12602655527fb5401c46014be29079666a8aedd1032be1be89d18dbc49") false
    row (fun _ h => by cases h) (by kernel_rfl) (fun _ h => by cases h) fnExactHandleOf_row_tie rfl ⟨rfl, rfl⟩ (by kernel_rfl) rfl
    (fun f fn hf hfn => by
      obtain rfl : f = 4 := Option.some.inj ((show Tryd.prog.funcNamed "loop.example/g00036/laws.FnExactHandleOf" = some 4 by kernel_rfl).symm.trans hf) |>.symm
      obtain rfl : fn = Tryd.f4 := (Option.some.inj (Tryd.func4.symm.trans hfn)).symm
      exact ⟨by kernel_rfl, fun j t ht => by
        rw [Tryd.params4] at ht
        have hm : t ∈ [24, 9, 3] := by simpa using Array.mem_of_getElem? ht
        have hall : ([24, 9, 3].all fun u => !Tryd.prog.wantsStandIn u) = true := by kernel_rfl
        exact (show Tryd.prog.wantsStandIn t = false by simpa using List.all_eq_true.1 hall t hm)⟩)
    (by kernel_rfl)
end Go.Proofs.YtdpedpikmmedjaaDoor.D.fnExactHandleOf
namespace Go.Proofs.YtdpedpikmmedjaaDoor
theorem fnExactHandleOf_holds : Rows.FnExactHandleOfCardSaid := D.fnExactHandleOf.card
end Go.Proofs.YtdpedpikmmedjaaDoor
