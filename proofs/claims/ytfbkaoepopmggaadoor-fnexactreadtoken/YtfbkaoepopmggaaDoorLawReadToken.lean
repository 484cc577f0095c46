/- The row and the card of laws.FnExactReadToken: its walk, then the row's step. -/
import Derived.Test.YtfbkaoepopmggaaDoorRows
import Derived.Test.YtfbkaoepopmggaaDoorCards
import Derived.Test.YtfbkaoepopmggaaDoorTie
import Derived.Test.YtfbkaoepopmggaaDoorDLk
import Derived.Test.YtfbkaoepopmggaaDoorDRtk
import Derived.WalkKit
import Derived.ProofKit
import Derived.OpenShut
import Derived.ShutString
import Derived.ChangeOld
import Derived.Below
import Derived.Lib.SmallJoins
import Derived.LaidMore
import Derived.ChangeVars
import Derived.SevenTiedAt
import Derived.Stop.Joined
import Derived.ChangeMaps5
namespace Go.Proofs.YtfbkaoepopmggaaDoor.D.fnExactReadToken
open Go.ChangeShapes Go.WideShapes Go.ChangeAt Go.RowKit Go.Joins
open Go.ChangeMaps (open_string shut_string)
set_option linter.unusedVariables false
set_option maxRecDepth 100000

theorem walk (s : Int) (t : ByteArray) (w : World) (ws : (Lit.int .i64 s).wf = true) (wt : t.size ≤ maxLen) (hL : laidMetH Tryd.prog D.laid6 w) :
    Calls Tryd.prog 5 #[.int .i64 s, .string t] w fun e w' => e = .returned (.bool true) ∧ Below w.heap.size w w' := by
  have HM := hide (mults_of (cells_of_laid6 hL))
  have HT := hide (tab_of_laid6 hL)
  have HE := hide (errs_of_laid6 hL)
  clear ws hL
  unfold maxLen at wt
  by_cases hz : 1048576 < t.size
  · go_enter Tryd.func5, Tryd.ntmps5
    go_wp2_with fail
    go_ret
    exact ⟨rfl, Below.refl _ _⟩
  have hs := hide (fun w => sReadToken_any s t w (by omega))
  have hi := hide (fun w a b c => iReadToken_any s t w (by omega) a b c)
  go_enter Tryd.func5, Tryd.ntmps5
  go_wp2_with fail
  refine (unhide hs _).mono ?_
  rintro e w1 ⟨⟨r, b, rfl, h1⟩, hb1⟩
  have H1 := hide h1
  replace HM := hide ((unhide HM).keepB hb1 (unhide HM).1)
  replace HT := hide ((unhide HT).keep hb1)
  replace HE := hide ((unhide HE).keep hb1)
  have B1 := hide hb1
  clear hb1 h1
  go_wp2_with fail
  refine (unhide hi _ (unhide HM) (unhide HT) (unhide HE)).mono ?_
  rintro e w2 ⟨⟨r2, b2, rfl, h2⟩, hb2⟩
  obtain ⟨rfl, rfl⟩ := (unhide H1).uniq h2
  have B2 := hide (bTr (unhide B1) hb2)
  clear hb2 B1 h2 H1 HM HT HE
  go_wp2_with fail
  go_ret
  exact ⟨rfl, unhide B2⟩

theorem lifted (os : Os) (started : os.Started) (H : Type) (enc : TypeId × Value → H) :
    ReturnsInHanded {} Tryd.checked os 5 .any (fun w args => (Rows.fnExactReadTokenSpec.pre enc Tryd.prog Tryd.f5 [] false w args ∧ laidMetH Tryd.prog D.laid6 w) ∧ sizedMet enc Tryd.prog Tryd.f5 (OpenSpec.ofChange Rows.fnExactReadTokenSpec) false w args)
      (Rows.fnExactReadTokenSpec.post enc Tryd.prog Tryd.f5 false true false false) := by
  refine returnsInHanded_of_change_and (C := Tryd.checked) (X := fun w _ => laidMetH Tryd.prog D.laid6 w) (fun _ _ _ hh h => h.of_heap hh) own started (by kernel_rfl) Tryd.func5
    (ChangeSpec.witness_shaped (enc := enc) (C := Tryd.checked) (os := os) (X := fun w _ => laidMetH Tryd.prog D.laid6 w) false (World.doorLaid Tryd.prog 400 os) #[.int .i64 0, .string ByteArray.empty] 8 rfl (World.shaped_of_RefB (by kernel_rfl) (by kernel_rfl)) (by kernel_rfl) (by kernel_rfl) (by kernel_rfl) (door_met6 os _)) ?_
  intro W base args ds gs before hval0 hW _ _ hL _
  have hval : ∀ (j : Nat) t v, Tryd.f5.params[j]? = some t → args[j]? = some v → Value.okWide Tryd.prog W .any base t v := hval0
  have hW' := hW
  obtain ⟨p, q, hA0, hV0, rfl, hfz, hnd⟩ := hW
  have hA : DataW.TrodAll enc Tryd.prog W 0 (fun _ => true) true Tryd.f5.params.toList args.toList ds p := hA0
  have hV : DataW.TrodVars enc Tryd.prog W (fun _ => true) ["loop.example/g00036/impl.multipliers"] gs q := hV0
  rw [Tryd.params5] at hA hval
  obtain ⟨v0, vs0, d0, ds0, p0, q0, hargs, rfl, rfl, h0, r0⟩ := trodAll_cons hA
  obtain ⟨v1, vs1, d1, ds1, p1, q1, rfl, rfl, rfl, h1, r1⟩ := trodAll_cons r0
  obtain ⟨rfl, rfl, rfl⟩ := trodAll_nil r1
  obtain rfl : args = #[v0, v1] := by cases args; simp_all
  obtain ⟨g, t, cs, fuel, d, p', rfl, hg, ht, hvar, hd, rfl⟩ := trodVars_one hV
  obtain rfl := Option.some.inj (gMul.symm.trans hg)
  obtain rfl := Option.some.inj (tMul.symm.trans ht)
  obtain rfl : cs = cellsM := Option.some.inj (hvar.symm.trans (cells_of_laid6 hL))
  obtain ⟨rfl, rfl⟩ := DataW.Trod.unique (v := .agg cellsM) ⟨fuel, hd⟩ ⟨3, reads_mul enc W _⟩
  obtain ⟨a0, rfl, rfl, rfl, w0⟩ := open_int Tryd.underlying3 (hval 0 3 v0 rfl rfl) h0
  obtain ⟨a1, rfl, rfl, rfl, w1⟩ := open_string Tryd.underlying9 (hval 1 9 v1 rfl rfl) h1
  clear hA0 hV0 hval0
  have hM := mults_of (cells_of_laid6 hL)
  refine (walk a0 a1 W w0 w1 hL).mono fun e W' ⟨he, bel⟩ => ?_
  subst he
  exact ⟨_, rfl, _, _, _, [], _, _, hW', trodAll_mk1 (shut_bool Tryd.underlying4 _), (trodAll_cons_mk (shut_int Tryd.underlying3 w0) (trodAll_cons_mk (shut_string Tryd.underlying9 w1) trodAll_mk0)), vars_kept enc (cells_of_laid6 hL) hM.1 bel, bel.frame _, fun h => by cases h⟩

theorem row : Rows.FnExactReadTokenSaid :=
  OpenClaim.holds_of_wide 5 Tryd.f5 rfl rfl rfl rfl rfl rfl rfl ⟨rfl, rfl, rfl, rfl, rfl⟩ rfl rfl rfl rfl rfl (by kernel_rfl) Tryd.func5 (by kernel_rfl)
    (of_decide_eq_true (by kernel_rfl)) (by unfold Func.isWrapper; first | (rw [if_pos (by decide +kernel)]; kernel_rfl) | (rw [if_neg (by decide +kernel)]; exact ⟨rfl, rfl⟩))
    (fun os started H enc _ => lifted os started H enc)
theorem card : Rows.FnExactReadTokenCardSaid :=
  Claim7.holds_tied_plain_at .later [] [.data, .data, .data, .sentinel, .sentinel, .data] true (true, "3949481afb3f70e378525bd3f00d5099b9b0d69ba8660796893b2915b9441ce7") true
    row (fun _ h => by cases h) (by kernel_rfl) (fun _ h => by cases h) fnExactReadToken_row_tie rfl ⟨rfl, rfl⟩ (by kernel_rfl) rfl
    (fun f fn hf hfn => by
      obtain rfl : f = 5 := Option.some.inj ((show Tryd.prog.funcNamed "loop.example/g00036/laws.FnExactReadToken" = some 5 by kernel_rfl).symm.trans hf) |>.symm
      obtain rfl : fn = Tryd.f5 := (Option.some.inj (Tryd.func5.symm.trans hfn)).symm
      exact ⟨by kernel_rfl, fun j t ht => by
        rw [Tryd.params5] at ht
        have hm : t ∈ [3, 9] := by simpa using Array.mem_of_getElem? ht
        have hall : ([3, 9].all fun u => !Tryd.prog.wantsStandIn u) = true := by kernel_rfl
        exact (show Tryd.prog.wantsStandIn t = false by simpa using List.all_eq_true.1 hall t hm)⟩)
    (by kernel_rfl)
end Go.Proofs.YtfbkaoepopmggaaDoor.D.fnExactReadToken
namespace Go.Proofs.YtfbkaoepopmggaaDoor
theorem fnExactReadToken_holds : Rows.FnExactReadTokenCardSaid := D.fnExactReadToken.card
end Go.Proofs.YtfbkaoepopmggaaDoor
