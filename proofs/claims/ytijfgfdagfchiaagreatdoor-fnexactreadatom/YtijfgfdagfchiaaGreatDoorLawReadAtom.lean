/- The row and the card of laws.FnExactReadAtom: its walk, then the row's step. -/
import Derived.Test.YtijfgfdagfchiaaGreatDoorRows
import Derived.Test.YtijfgfdagfchiaaGreatDoorCards
import Derived.Test.YtijfgfdagfchiaaGreatDoorTie
import Derived.Test.YtijfgfdagfchiaaGreatDoorALk
import Derived.Test.YtijfgfdagfchiaaGreatDoorARs
import Derived.WalkKit
import Derived.ProofKit
import Derived.OpenShut
import Derived.ShutString
import Derived.ChangeOld
import Derived.Below
import Derived.Lib.SmallJoins
import Derived.LaidMore
import Derived.ChangeVars
import Derived.SevenTiedAt
import Derived.Stop.Joined
import Derived.ChangeMaps5
namespace Go.Proofs.YtijfgfdagfchiaaGreatDoor.fnExactReadAtom
open Go.ChangeShapes Go.WideShapes Go.ChangeAt Go.RowKit Go.Joins
open Go.ChangeMaps (open_string shut_string)
set_option linter.unusedVariables false
set_option maxRecDepth 20000

theorem eqAtom_same (x n : Int) (t y : ByteArray) (w : World) :
    Calls Tryz.prog 7 #[.agg #[.int .i64 x, .int .i64 n, .string t, .string y], .agg #[.int .i64 x, .int .i64 n, .string t, .string y]] w fun e w' => e = .returned (.bool true) ∧ Below w.heap.size w w' := by
  go_enter Tryz.func7, Tryz.ntmps7
  go_wp2
  go_ret
  exact ⟨rfl, bAl (bAl (Below.refl _ _) _) _⟩

theorem walk (s : ByteArray) (w : World) (hs : s.size ≤ maxLen) (hE : Env w) :
    Calls Tryz.prog 3 #[.string s] w fun e w' => e = .returned (.bool true) ∧ Below w.heap.size w w' := by
  unfold maxLen at hs
  by_cases hz : s.size ≤ 1048576
  · have q1 := hide (fun w => sReadAtom_any s w hz)
    have q2 := hide (fun w h => iReadAtom_any s w hz h)
    have HE := hide hE
    clear hE
    go_enter Tryz.func3, Tryz.ntmps3
    go_wp2_with fail
    refine (unhide q1 _).mono ?_
    rintro e w1 ⟨⟨k, n, t, y, ok, rfl, ha⟩, hb1⟩
    have HA := hide ha
    have B1 := hide (bTr hb1 (bAl (Below.refl w1.heap.size w1) (.cells #[.int .i64 k, .int .i64 n, .string t, .string y] 23)))
    have R := hide (RowIs.new w1 #[.int .i64 k, .int .i64 n, .string t, .string y] 23)
    clear ha hb1
    go_wp2_with fail
    refine (unhide q2 _ ((unhide HE).keep (unhide B1))).mono ?_
    rintro e w2 ⟨⟨k2, n2, t2, y2, ok2, rfl, ha2⟩, hb2⟩
    obtain ⟨rfl, rfl, rfl, rfl, rfl⟩ := ha2.uniq (unhide HA)
    have ba := bAl (Below.refl w2.heap.size w2) (.cells #[.int .i64 k2, .int .i64 n2, .string t2, .string y2] 23)
    have B2 := hide (bTr (bTr (unhide B1) hb2) ba)
    have lt2 : w1.heap.size < w2.heap.size := ((unhide R).keep hb2).lt
    replace R := hide (((unhide R).keep hb2).keep ba)
    clear ha2 hb2 HA B1
    have d0 := (unhide R).get (o := 0) (v := .int .i64 k2) rfl
    have d1 := (unhide R).get (o := 1) (v := .int .i64 n2) rfl
    have d2 := (unhide R).get (o := 2) (v := .string t2) rfl
    have d3 := (unhide R).get (o := 3) (v := .string y2) rfl
    have nab : ¬ w2.heap.size = w1.heap.size := by omega
    go_wp2_with fail
    refine (eqAtom_same _ _ _ _ _).mono ?_
    rintro e w3 ⟨rfl, hb3⟩
    have B3 := hide (bTr (unhide B2) hb3)
    clear hb3 B2 d0 d1 d2 d3 R ba
    cases ok2
    all_goals
      go_wp2_with fail
      go_ret
      exact ⟨rfl, unhide B3⟩
  · go_enter Tryz.func3, Tryz.ntmps3
    go_wp2_with fail
    go_ret
    exact ⟨rfl, Below.refl _ _⟩

set_option maxRecDepth 100000 in
theorem lifted (os : Os) (started : os.Started) (H : Type) (enc : TypeId × Value → H) :
    ReturnsInHanded {} Tryz.checked os 3 .any (fun w args => (Rows.fnExactReadAtomSpec.pre enc Tryz.prog Tryz.f3 [] false w args ∧ laidMetH Tryz.prog laid7 w) ∧ sizedMet enc Tryz.prog Tryz.f3 (OpenSpec.ofChange Rows.fnExactReadAtomSpec) false w args)
      (Rows.fnExactReadAtomSpec.post enc Tryz.prog Tryz.f3 false true false false) := by
  refine handed_shaped (C := Tryz.checked) (X := fun w _ => laidMetH Tryz.prog laid7 w) (fun _ _ _ hh h => h.of_heap hh) own started (by kernel_rfl) Tryz.func3
    (ChangeSpec.witness_shaped (enc := enc) (C := Tryz.checked) (os := os) (X := fun w _ => laidMetH Tryz.prog laid7 w) false (World.laidAll Tryz.prog os laid7) #[.string ByteArray.empty] 8 (World.laidAll_os _ _ _) (World.shaped_of_ZipB (by kernel_rfl) (by kernel_rfl)) (by kernel_rfl) (by kernel_rfl) (by kernel_rfl) (all_met7 os _)) ?_
  intro W base args ds gs before hval0 hW hSh hL
  have hval : ∀ (j : Nat) t v, Tryz.f3.params[j]? = some t → args[j]? = some v → Value.okWide Tryz.prog W .any base t v := hval0
  have hW' := hW
  obtain ⟨p, q, hA0, hV, rfl, hfz, hnd⟩ := hW
  have hA : DataW.TrodAll enc Tryz.prog W 0 (fun _ => true) true Tryz.f3.params.toList args.toList ds p := hA0
  rw [Tryz.params3] at hA hval
  obtain ⟨v0, vs0, d0, ds0, p0, q0, hargs, rfl, rfl, h0, r0⟩ := trodAll_cons hA
  obtain ⟨rfl, rfl, rfl⟩ := trodAll_nil r0
  obtain rfl : args = #[v0] := by cases args; simp_all
  obtain ⟨rfl, rfl⟩ := trodVars_none hV
  obtain ⟨a0, rfl, rfl, rfl, w0⟩ := open_string Tryz.underlying9 (hval 0 9 v0 rfl rfl) h0
  clear hA0 hval0
  refine (walk a0 W w0 (env_of_laid7 hL hSh)).mono fun e W' ⟨he, bel⟩ => ?_
  subst he
  exact ⟨_, rfl, _, _, _, [], _, [], hW', trodAll_mk1 (shut_bool Tryz.underlying4 _), (trodAll_cons_mk (shut_string Tryz.underlying9 w0) trodAll_mk0), rfl, bel.frame _, fun h => by cases h⟩

theorem row : Rows.FnExactReadAtomSaid :=
  OpenClaim.holds_of_wide 3 Tryz.f3 rfl rfl rfl rfl rfl rfl rfl ⟨rfl, rfl, rfl, rfl, rfl⟩ rfl rfl rfl rfl rfl (by kernel_rfl) Tryz.func3 (by kernel_rfl)
    (of_decide_eq_true (by kernel_rfl)) (by unfold Func.isWrapper; first | (rw [if_pos (by decide +kernel)]; kernel_rfl) | (rw [if_neg (by decide +kernel)]; exact ⟨rfl, rfl⟩))
    (fun os started H enc _ => lifted os started H enc)
theorem card : Rows.FnExactReadAtomCardSaid :=
  Claim7.holds_tied_plain_at .later [] [.data, .data, .data, .data, .sentinel, .sentinel, .pinned] true (true, "2f3e2cbe07dc248667d37b29720da327fead2a06f03020b4fac5e49c8efb0577") true
    row (fun _ h => by cases h) (by kernel_rfl) (fun _ h => by cases h) fnExactReadAtom_row_tie rfl ⟨rfl, rfl⟩ (by kernel_rfl) rfl
    (fun f fn hf hfn => by
      obtain rfl : f = 3 := Option.some.inj ((show Tryz.prog.funcNamed "loop.example/g00036/laws.FnExactReadAtom" = some 3 by kernel_rfl).symm.trans hf) |>.symm
      obtain rfl : fn = Tryz.f3 := (Option.some.inj (Tryz.func3.symm.trans hfn)).symm
      exact ⟨by kernel_rfl, fun j t ht => by
        rw [Tryz.params3] at ht
        have hm : t ∈ [9] := by simpa using Array.mem_of_getElem? ht
        have hall : ([9].all fun u => !Tryz.prog.wantsStandIn u) = true := by kernel_rfl
        exact (show Tryz.prog.wantsStandIn t = false by simpa using List.all_eq_true.1 hall t hm)⟩)
    (by kernel_rfl)
end Go.Proofs.YtijfgfdagfchiaaGreatDoor.fnExactReadAtom
namespace Go.Proofs.YtijfgfdagfchiaaGreatDoor
theorem fnExactReadAtom_holds : Rows.FnExactReadAtomCardSaid := fnExactReadAtom.card
end Go.Proofs.YtijfgfdagfchiaaGreatDoor
