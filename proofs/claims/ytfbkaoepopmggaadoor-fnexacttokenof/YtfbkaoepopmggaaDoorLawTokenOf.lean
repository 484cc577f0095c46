/- The row and the card of laws.FnExactTokenOf: its walk, then the row's step. -/
import Derived.Test.YtfbkaoepopmggaaDoorRows
import Derived.Test.YtfbkaoepopmggaaDoorCards
import Derived.Test.YtfbkaoepopmggaaDoorTie
import Derived.Test.YtfbkaoepopmggaaDoorDLk
import Derived.Test.YtfbkaoepopmggaaDoorDTok
import Derived.WalkKit
import Derived.ProofKit
import Derived.OpenShut
import Derived.ShutString
import Derived.ChangeOld
import Derived.Below
import Derived.Lib.SmallJoins
import Derived.LaidMore
import Derived.ChangeVars
import Derived.SevenTiedAt
import Derived.Stop.Joined
namespace Go.Proofs.YtfbkaoepopmggaaDoor.D.fnExactTokenOf
open Go.ChangeShapes Go.WideShapes Go.ChangeAt Go.RowKit Go.Joins
set_option linter.unusedVariables false
set_option maxRecDepth 100000

theorem walk (s rev : Int) (w : World) (ws : (Lit.int .i64 s).wf = true) (wr : (Lit.int .i64 rev).wf = true) (hL : laidMetH Tryd.prog D.laid4 w) :
    Calls Tryd.prog 4 #[.int .i64 s, .int .i64 rev] w fun e w' => e = .returned (.bool true) ∧ Below w.heap.size w w' := by
  have hb : -9223372036854775808 ≤ rev ∧ rev ≤ 9223372036854775807 := by
    have := wr; simp [Lit.wf, IntKind.min, IntKind.max, IntKind.signed, IntKind.bits] at this; omega
  have HM := hide (mults_of (cells_of_laid4 hL))
  have HT := hide (tab_of_laid4 hL)
  clear ws wr hL
  obtain ⟨h8, h9⟩ := hb
  have hs := hide (fun w => sTokenOf_any s rev w h8 h9)
  have hi := hide (fun w hM hT => iTokenOf_any s rev w h8 h9 hM hT)
  generalize tokT s rev = T at hs hi
  go_enter Tryd.func4, Tryd.ntmps4
  go_wp2_with fail
  refine (unhide hs _).mono ?_
  rintro e w1 ⟨rfl, hb1⟩
  replace HM := hide ((unhide HM).keepB hb1 (unhide HM).1)
  replace HT := hide ((unhide HT).keep hb1)
  have B1 := hide hb1
  clear hb1
  go_wp2_with fail
  refine (unhide hi _ (unhide HM) (unhide HT)).mono ?_
  rintro e w2 ⟨rfl, hb2⟩
  have B2 := hide (bTr (unhide B1) hb2)
  clear hb2 B1
  go_wp2_with fail
  go_ret
  exact ⟨rfl, unhide B2⟩

theorem lifted (os : Os) (started : os.Started) (H : Type) (enc : TypeId × Value → H) :
    ReturnsInHanded {} Tryd.checked os 4 .any (fun w args => (Rows.fnExactTokenOfSpec.pre enc Tryd.prog Tryd.f4 [] false w args ∧ laidMetH Tryd.prog D.laid4 w) ∧ sizedMet enc Tryd.prog Tryd.f4 (OpenSpec.ofChange Rows.fnExactTokenOfSpec) false w args)
      (Rows.fnExactTokenOfSpec.post enc Tryd.prog Tryd.f4 false true false false) := by
  refine returnsInHanded_of_change_and (C := Tryd.checked) (X := fun w _ => laidMetH Tryd.prog D.laid4 w) (fun _ _ _ hh h => h.of_heap hh) own started (by kernel_rfl) Tryd.func4
    (ChangeSpec.witness_shaped (enc := enc) (C := Tryd.checked) (os := os) (X := fun w _ => laidMetH Tryd.prog D.laid4 w) false (World.doorLaid Tryd.prog 400 os) #[.int .i64 0, .int .i64 0] 8 rfl (World.shaped_of_RefB (by kernel_rfl) (by kernel_rfl)) (by kernel_rfl) (by kernel_rfl) (by kernel_rfl) (door_met4 os _)) ?_
  intro W base args ds gs before hval0 hW _ _ hL _
  have hval : ∀ (j : Nat) t v, Tryd.f4.params[j]? = some t → args[j]? = some v → Value.okWide Tryd.prog W .any base t v := hval0
  have hW' := hW
  obtain ⟨p, q, hA0, hV0, rfl, hfz, hnd⟩ := hW
  have hA : DataW.TrodAll enc Tryd.prog W 0 (fun _ => true) true Tryd.f4.params.toList args.toList ds p := hA0
  have hV : DataW.TrodVars enc Tryd.prog W (fun _ => true) ["loop.example/g00036/impl.multipliers"] gs q := hV0
  rw [Tryd.params4] at hA hval
  obtain ⟨v0, vs0, d0, ds0, p0, q0, hargs, rfl, rfl, h0, r0⟩ := trodAll_cons hA
  obtain ⟨v1, vs1, d1, ds1, p1, q1, rfl, rfl, rfl, h1, r1⟩ := trodAll_cons r0
  obtain ⟨rfl, rfl, rfl⟩ := trodAll_nil r1
  obtain rfl : args = #[v0, v1] := by cases args; simp_all
  obtain ⟨g, t, cs, fuel, d, p', rfl, hg, ht, hvar, hd, rfl⟩ := trodVars_one hV
  obtain rfl := Option.some.inj (gMul.symm.trans hg)
  obtain rfl := Option.some.inj (tMul.symm.trans ht)
  obtain rfl : cs = cellsM := Option.some.inj (hvar.symm.trans (cells_of_laid4 hL))
  obtain ⟨rfl, rfl⟩ := DataW.Trod.unique (v := .agg cellsM) ⟨fuel, hd⟩ ⟨3, reads_mul enc W _⟩
  obtain ⟨a0, rfl, rfl, rfl, w0⟩ := open_int Tryd.underlying3 (hval 0 3 v0 rfl rfl) h0
  obtain ⟨a1, rfl, rfl, rfl, w1⟩ := open_int Tryd.underlying3 (hval 1 3 v1 rfl rfl) h1
  clear hA0 hV0 hval0
  have hM := mults_of (cells_of_laid4 hL)
  refine (walk a0 a1 W w0 w1 hL).mono fun e W' ⟨he, bel⟩ => ?_
  subst he
  exact ⟨_, rfl, _, _, _, [], _, _, hW', trodAll_mk1 (shut_bool Tryd.underlying4 _), (trodAll_cons_mk (shut_int Tryd.underlying3 w0) (trodAll_cons_mk (shut_int Tryd.underlying3 w1) trodAll_mk0)), vars_kept enc (cells_of_laid4 hL) hM.1 bel, bel.frame _, fun h => by cases h⟩

theorem row : Rows.FnExactTokenOfSaid :=
  OpenClaim.holds_of_wide 4 Tryd.f4 rfl rfl rfl rfl rfl rfl rfl ⟨rfl, rfl, rfl, rfl, rfl⟩ rfl rfl rfl rfl rfl (by kernel_rfl) Tryd.func4 (by kernel_rfl)
    (of_decide_eq_true (by kernel_rfl)) (by unfold Func.isWrapper; first | (rw [if_pos (by decide +kernel)]; kernel_rfl) | (rw [if_neg (by decide +kernel)]; exact ⟨rfl, rfl⟩))
    (fun os started H enc _ => lifted os started H enc)
theorem card : Rows.FnExactTokenOfCardSaid :=
  Claim7.holds_tied_plain_at .later [] [.data, .data, .data, .data] true (true, "3949481afb3f70e378525bd3f00d5099b9b0d69ba8660796893b2915b9441ce7") true
    row (fun _ h => by cases h) (by kernel_rfl) (fun _ h => by cases h) fnExactTokenOf_row_tie rfl ⟨rfl, rfl⟩ (by kernel_rfl) rfl
    (fun f fn hf hfn => by
      obtain rfl : f = 4 := Option.some.inj ((show Tryd.prog.funcNamed "loop.example/g00036/laws.FnExactTokenOf" = some 4 by kernel_rfl).symm.trans hf) |>.symm
      obtain rfl : fn = Tryd.f4 := (Option.some.inj (Tryd.func4.symm.trans hfn)).symm
      exact ⟨by kernel_rfl, fun j t ht => by
        rw [Tryd.params4] at ht
        have hm : t ∈ [3, 3] := by simpa using Array.mem_of_getElem? ht
        have hall : ([3, 3].all fun u => !Tryd.prog.wantsStandIn u) = true := by kernel_rfl
        exact (show Tryd.prog.wantsStandIn t = false by simpa using List.all_eq_true.1 hall t hm)⟩)
    (by kernel_rfl)
end Go.Proofs.YtfbkaoepopmggaaDoor.D.fnExactTokenOf
namespace Go.Proofs.YtfbkaoepopmggaaDoor
theorem fnExactTokenOf_holds : Rows.FnExactTokenOfCardSaid := D.fnExactTokenOf.card
end Go.Proofs.YtfbkaoepopmggaaDoor
