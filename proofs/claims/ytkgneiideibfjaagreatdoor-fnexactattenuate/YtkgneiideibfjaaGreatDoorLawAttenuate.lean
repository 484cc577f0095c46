/- LawAttenuate, one behind the other. -/
import Derived.Test.YtkgneiideibfjaaGreatDoorRows
import Derived.Test.YtkgneiideibfjaaGreatDoorCards
import Derived.Test.YtkgneiideibfjaaGreatDoorTie
import Derived.Test.YtkgneiideibfjaaGreatDoorJ26
import Derived.Test.YtkgneiideibfjaaGreatDoorJ33
import Derived.WalkKit
import Derived.ProofKit
import Derived.OpenShut
import Derived.ShutString
import Derived.ChangeOld
import Derived.Below
import Derived.Lib.SmallJoins
import Derived.LaidMore
import Derived.ChangeVars
import Derived.SevenTiedAt
import Derived.Stop.Joined
/- The row and the card of laws.FnExactAttenuate: its walk, then the row's step. -/
namespace Go.Proofs.YtkgneiideibfjaaGreatDoor.fnExactAttenuate
open Go.ChangeShapes Go.WideShapes Go.ChangeAt Go.RowKit Go.Joins
open Go.ChangeMaps (open_string shut_string)
set_option linter.unusedVariables false

open V in
set_option maxRecDepth 100000 in
theorem lifted (os : Os) (started : os.Started) (H : Type) (enc : TypeId × Value → H) :
    ReturnsInHanded {} Tryz.checked os 3 .any (fun w args => (Rows.fnExactAttenuateSpec.pre enc Tryz.prog Tryz.f3 [] false w args ∧ laidMetH Tryz.prog D.laid5 w) ∧ sizedMet enc Tryz.prog Tryz.f3 (OpenSpec.ofChange Rows.fnExactAttenuateSpec) false w args)
      (Rows.fnExactAttenuateSpec.post enc Tryz.prog Tryz.f3 false true false false) := by
  refine returnsInHanded_of_change_and (C := Tryz.checked) (X := fun w _ => laidMetH Tryz.prog D.laid5 w) (fun _ _ _ hh h => h.of_heap hh) V.own started (by kernel_rfl) Tryz.func3
    (ChangeSpec.witness_shaped (enc := enc) (C := Tryz.checked) (os := os) (X := fun w _ => laidMetH Tryz.prog D.laid5 w) false (World.doorLaid Tryz.prog 400 os) #[.agg #[.string ByteArray.empty, .slice none 0 0, .slice none 0 0], .agg #[.string ByteArray.empty, .int .i64 0, .string ByteArray.empty, .int .i64 0, .int .i64 0, .string ByteArray.empty, .string ByteArray.empty]] 8 rfl (World.shaped_of_RefB (by kernel_rfl) (by kernel_rfl)) (by kernel_rfl) (by kernel_rfl) (by kernel_rfl) (D.door_met5 os _)) ?_
  intro W base args ds gs before hval0 hW _ _ hL _
  have hval : ∀ (j : Nat) t v, Tryz.f3.params[j]? = some t → args[j]? = some v → Value.okWide Tryz.prog W .any base t v := hval0
  have hW' := hW
  obtain ⟨p, q, hA0, hV0, rfl, hfz, hnd⟩ := hW
  have hA : DataW.TrodAll enc Tryz.prog W 0 (fun _ => true) true Tryz.f3.params.toList args.toList ds p := hA0
  have hV : DataW.TrodVars enc Tryz.prog W (fun _ => true) ["loop.example/g00036/impl.opSigns", "loop.example/g00036/impl.multipliers"] gs q := hV0
  rw [Tryz.params3] at hA hval
  obtain ⟨v0, vs0, d0, ds0, p0, q0, hargs, rfl, rfl, h0, r0⟩ := trodAll_cons hA
  obtain ⟨v1, vs1, d1, ds1, p1, q1, rfl, rfl, rfl, h1, r1⟩ := trodAll_cons r0
  obtain ⟨rfl, rfl, rfl⟩ := trodAll_nil r1
  obtain rfl : args = #[v0, v1] := by cases args; simp_all
  cases gs with
  | nil => exact absurd hV (by simp [DataW.TrodVars])
  | cons dv dvs =>
  obtain ⟨g, t, cs, fuel, p', q', hg, ht, hvar, hd, hs, rfl⟩ := hV
  obtain ⟨g2, t2, cs2, fuel2, dv2, p2', rfl, hg2, ht2, hvar2, hd2, rfl⟩ := trodVars_one hs
  obtain rfl := Option.some.inj (V.gKw.symm.trans hg)
  obtain rfl := Option.some.inj (V.tKw.symm.trans ht)
  obtain rfl : cs = V.cellsK := Option.some.inj (hvar.symm.trans (D.signs_of5 hL))
  obtain ⟨rfl, rfl⟩ := DataW.Trod.unique (v := .agg V.cellsK) ⟨fuel, hd⟩ ⟨3, V.reads_kw enc W _⟩
  obtain rfl := Option.some.inj (D.gMul.symm.trans hg2)
  obtain rfl := Option.some.inj (D.tMul.symm.trans ht2)
  obtain rfl : cs2 = D.cellsM := Option.some.inj (hvar2.symm.trans (D.mults_of5 hL))
  obtain ⟨rfl, rfl⟩ := DataW.Trod.unique (v := .agg D.cellsM) ⟨fuel2, hd2⟩ ⟨3, D.reads_mul enc W _⟩
  have k0 := h0
  have k1 := h1
  have lt0 : ∀ x ∈ p0, x.block < W.heap.size := by obtain ⟨m, hm⟩ := k0; exact DataW.trod_lt m _ _ _ hm
  have lt1 : ∀ x ∈ p1, x.block < W.heap.size := by obtain ⟨m, hm⟩ := k1; exact DataW.trod_lt m _ _ _ hm
  obtain ⟨id, b1, b2, n1, c1, n2, c2, T, G, e0, o0, s0, ok1, l1, t0, l2⟩ := D.came_Cap (hval 0 25 v0 rfl rfl) h0
  subst e0
  have en := t0.1
  subst en
  obtain ⟨g0, e1, o1⟩ : ∃ A : V.CavTermT, v1 = .agg #[.string A.f0, .int .i64 A.f1, .string A.f2, .int .i64 A.f3, .int .i64 A.f4, .string A.f5, .string A.f6] ∧ A.Ok := by
    obtain ⟨cs0, rfl, _⟩ := okWide_struct Tryz.underlying29 (hval 1 29 v1 rfl rfl)
    obtain ⟨n0, hm0⟩ := h1
    obtain ⟨A0, e0, ok0⟩ := V.read_CavTerm hm0
    refine ⟨A0, ?_, ok0⟩
    obtain ⟨l0⟩ := cs0
    simp [Value.cells] at e0
    subst e0
    rfl
  subst e1
  clear hA0 hV0 hval0
  have hSg := V.signs_of (D.signs_of5 hL)
  have hMu := D.mults_of (D.mults_of5 hL)
  refine (D.walkA ⟨id, b1, b2, n1, c1, c2, T, G, g0⟩ W o0 l1 s0 ok1 t0 l2 o1 (D.tab_of5 hL) hSg hMu).mono fun e W' ⟨he, bel⟩ => ?_
  subst he
  exact ⟨_, rfl, _, _, _, [], _, _, hW', trodAll_mk1 (shut_bool Tryz.underlying4 _), (trodAll_cons_mk (Below.trod V.laidOut (by kernel_rfl) (of_decide_eq_true (by kernel_rfl)) k0 bel lt0) (trodAll_cons_mk (Below.trod V.laidOut (by kernel_rfl) (of_decide_eq_true (by kernel_rfl)) k1 bel lt1) trodAll_mk0)), D.vars_kept5 enc (D.signs_of5 hL) hSg.z (D.mults_of5 hL) hMu.1 bel, bel.frame _, fun h => by cases h⟩

theorem row : Rows.FnExactAttenuateSaid :=
  OpenClaim.holds_of_wide 3 Tryz.f3 rfl rfl rfl rfl rfl rfl rfl ⟨rfl, rfl, rfl, rfl, rfl⟩ rfl rfl rfl rfl rfl (by kernel_rfl) Tryz.func3 (by kernel_rfl)
    (of_decide_eq_true (by kernel_rfl)) (by unfold Func.isWrapper; first | (rw [if_pos (by decide +kernel)]; kernel_rfl) | (rw [if_neg (by decide +kernel)]; exact ⟨rfl, rfl⟩))
    (fun os started H enc _ => lifted os started H enc)
theorem card : Rows.FnExactAttenuateCardSaid :=
  Claim7.holds_tied_plain_at .later [] [.data, .data, .data, .data, .data] true (true, "88e98f25fdff0ff4dbc24969a406d196566ff05f21d91ede1a6f9f7d59e14c56") false
    row (fun _ h => by cases h) (by kernel_rfl) (fun _ h => by cases h) fnExactAttenuate_row_tie rfl ⟨rfl, rfl⟩ (by kernel_rfl) rfl
    (fun f fn hf hfn => by
      obtain rfl : f = 3 := Option.some.inj ((show Tryz.prog.funcNamed "loop.example/g00036/laws.FnExactAttenuate" = some 3 by kernel_rfl).symm.trans hf) |>.symm
      obtain rfl : fn = Tryz.f3 := (Option.some.inj (Tryz.func3.symm.trans hfn)).symm
      exact ⟨by kernel_rfl, fun j t ht => by
        rw [Tryz.params3] at ht
        have hm : t ∈ [25, 29] := by simpa using Array.mem_of_getElem? ht
        have hall : ([25, 29].all fun u => !Tryz.prog.wantsStandIn u) = true := by kernel_rfl
        exact (show Tryz.prog.wantsStandIn t = false by simpa using List.all_eq_true.1 hall t hm)⟩)
    (by kernel_rfl)
end Go.Proofs.YtkgneiideibfjaaGreatDoor.fnExactAttenuate
namespace Go.Proofs.YtkgneiideibfjaaGreatDoor
theorem fnExactAttenuate_holds : Rows.FnExactAttenuateCardSaid := fnExactAttenuate.card
end Go.Proofs.YtkgneiideibfjaaGreatDoor
