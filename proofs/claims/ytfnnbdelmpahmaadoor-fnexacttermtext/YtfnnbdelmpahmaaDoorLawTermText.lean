/- The row and the card of laws.FnExactTermText: its walk, then the row's step. -/
import Derived.Test.YtfnnbdelmpahmaaDoorRows
import Derived.Test.YtfnnbdelmpahmaaDoorCards
import Derived.Test.YtfnnbdelmpahmaaDoorTie
import Derived.Test.YtfnnbdelmpahmaaDoorKXl
import Derived.WalkKit
import Derived.ProofKit
import Derived.OpenShut
import Derived.ShutString
import Derived.ChangeOld
import Derived.Below
import Derived.Lib.SmallJoins
import Derived.LaidMore
import Derived.ChangeVars
import Derived.SevenTiedAt
import Derived.Stop.Joined
namespace Go.Proofs.YtfnnbdelmpahmaaDoor.fnExactTermText
open Go.ChangeShapes Go.WideShapes Go.ChangeAt Go.RowKit Go.Joins
open Go.ChangeMaps (open_string shut_string)
set_option linter.unusedVariables false

set_option maxRecDepth 20000 in
set_option maxHeartbeats 4000000 in
theorem walk (x : V.CavTermT) (w : World) (ok : x.Ok) (hT : Tab w) (hS : V.Signs w) :
    Calls Tryd.prog 3 #[.agg #[.string x.f0, .int .i64 x.f1, .string x.f2, .int .i64 x.f3, .int .i64 x.f4, .string x.f5, .string x.f6]] w fun e w' => e = .returned (.bool true) ∧ Below w.heap.size w w' := by
  have hs := hide (fun w => V.sTermText_any x w ok)
  have hi := hide (fun w hS hT => V.iTermText_any x w ok hS hT)
  have qz := hide (fun l w h0 h1 => V.szCavTerm_any x.f0 x.f1 x.f2 x.f3 x.f4 x.f5 x.f6 l w h0 h1 ok.o0 ok.o2 ok.o5 ok.o6)
  have qt := hide (fun w => V.toCavTerm_any x.f0 x.f1 x.f2 x.f3 x.f4 x.f5 x.f6 w)
  generalize V.termX x = T at hs hi
  have HT := hide hT
  have HS := hide hS
  clear hT hS ok
  have R := hide (RowIs.new w #[.string x.f0, .int .i64 x.f1, .string x.f2, .int .i64 x.f3, .int .i64 x.f4, .string x.f5, .string x.f6] 25)
  have B0 := hide (bAl (Below.refl w.heap.size w) (.cells #[.string x.f0, .int .i64 x.f1, .string x.f2, .int .i64 x.f3, .int .i64 x.f4, .string x.f5, .string x.f6] 25))
  go_enter Tryd.func3, Tryd.ntmps3
  go_wp2_with fail
  refine (unhide qz _ _ (by omega) (by omega)).mono ?_
  rintro e w1 ⟨⟨m, hm1, hm2, rfl⟩, hb1⟩
  replace R := hide ((unhide R).keep hb1)
  have B1 := hide (bTr (unhide B0) hb1)
  clear hb1 B0 qz
  have c0 := (unhide R).at (o := 0) (v := .string x.f0) rfl
  have c1 := (unhide R).at (o := 1) (v := .int .i64 x.f1) rfl
  have c2 := (unhide R).at (o := 2) (v := .string x.f2) rfl
  have c3 := (unhide R).at (o := 3) (v := .int .i64 x.f3) rfl
  have c4 := (unhide R).at (o := 4) (v := .int .i64 x.f4) rfl
  have c5 := (unhide R).at (o := 5) (v := .string x.f5) rfl
  have c6 := (unhide R).at (o := 6) (v := .string x.f6) rfl
  by_cases hm : m < 0
  · go_wp2_with fail
    go_ret
    exact ⟨rfl, unhide B1⟩
  go_wp2_with fail
  refine (unhide qt _).mono ?_
  rintro e w2 ⟨rfl, hb2⟩
  replace R := hide ((unhide R).keep hb2)
  have B2 := hide (bTr (unhide B1) hb2)
  clear hb2 B1 c0 c1 c2 c3 c4 c5 c6
  go_wp2_with fail
  refine (unhide hs _).mono ?_
  rintro e w3 ⟨rfl, hb3⟩
  replace R := hide ((unhide R).keep hb3)
  have B3 := hide (bTr (unhide B2) hb3)
  clear hb3 B2
  have c0 := (unhide R).at (o := 0) (v := .string x.f0) rfl
  have c1 := (unhide R).at (o := 1) (v := .int .i64 x.f1) rfl
  have c2 := (unhide R).at (o := 2) (v := .string x.f2) rfl
  have c3 := (unhide R).at (o := 3) (v := .int .i64 x.f3) rfl
  have c4 := (unhide R).at (o := 4) (v := .int .i64 x.f4) rfl
  have c5 := (unhide R).at (o := 5) (v := .string x.f5) rfl
  have c6 := (unhide R).at (o := 6) (v := .string x.f6) rfl
  go_wp2_with fail
  refine (unhide qt _).mono ?_
  rintro e w4 ⟨rfl, hb4⟩
  have B4 := hide (bTr (unhide B3) hb4)
  clear hb4 B3 c0 c1 c2 c3 c4 c5 c6 R
  go_wp2_with fail
  refine (unhide hi _ ((unhide HS).keep (unhide B4)) ((unhide HT).keep (unhide B4))).mono ?_
  rintro e w5 ⟨rfl, hb5⟩
  have B5 := hide (bTr (unhide B4) hb5)
  clear hb5 B4 hs hi
  go_wp2_with fail
  go_ret
  exact ⟨rfl, unhide B5⟩

open V in
set_option maxRecDepth 100000 in
theorem lifted (os : Os) (started : os.Started) (H : Type) (enc : TypeId × Value → H) :
    ReturnsInHanded {} Tryd.checked os 3 .any (fun w args => (Rows.fnExactTermTextSpec.pre enc Tryd.prog Tryd.f3 [] false w args ∧ laidMetH Tryd.prog V.laidT w) ∧ sizedMet enc Tryd.prog Tryd.f3 (OpenSpec.ofChange Rows.fnExactTermTextSpec) false w args)
      (Rows.fnExactTermTextSpec.post enc Tryd.prog Tryd.f3 false true false false) := by
  refine returnsInHanded_of_change_and (C := Tryd.checked) (X := fun w _ => laidMetH Tryd.prog V.laidT w) (fun _ _ _ hh h => h.of_heap hh) V.own started (by kernel_rfl) Tryd.func3
    (ChangeSpec.witness_shaped (enc := enc) (C := Tryd.checked) (os := os) (X := fun w _ => laidMetH Tryd.prog V.laidT w) false (World.doorLaid Tryd.prog 400 os) #[.agg #[.string ByteArray.empty, .int .i64 0, .string ByteArray.empty, .int .i64 0, .int .i64 0, .string ByteArray.empty, .string ByteArray.empty]] 8 rfl (World.shaped_of_RefB (by kernel_rfl) (by kernel_rfl)) (by kernel_rfl) (by kernel_rfl) (by kernel_rfl) (V.door_met os _)) ?_
  intro W base args ds gs before hval0 hW _ _ hL _
  have hval : ∀ (j : Nat) t v, Tryd.f3.params[j]? = some t → args[j]? = some v → Value.okWide Tryd.prog W .any base t v := hval0
  have hW' := hW
  obtain ⟨p, q, hA0, hV0, rfl, hfz, hnd⟩ := hW
  have hA : DataW.TrodAll enc Tryd.prog W 0 (fun _ => true) true Tryd.f3.params.toList args.toList ds p := hA0
  have hV : DataW.TrodVars enc Tryd.prog W (fun _ => true) ["loop.example/g00036/impl.opSigns"] gs q := hV0
  rw [Tryd.params3] at hA hval
  obtain ⟨v0, vs0, d0, ds0, p0, q0, hargs, rfl, rfl, h0, r0⟩ := trodAll_cons hA
  obtain ⟨rfl, rfl, rfl⟩ := trodAll_nil r0
  obtain rfl : args = #[v0] := by cases args; simp_all
  obtain ⟨g, t, cs, fuel, d, p', rfl, hg, ht, hvar, hd, rfl⟩ := trodVars_one hV
  obtain rfl := Option.some.inj (V.gKw.symm.trans hg)
  obtain rfl := Option.some.inj (V.tKw.symm.trans ht)
  obtain rfl : cs = V.cellsK := Option.some.inj (hvar.symm.trans (V.cells_of_laid hL))
  obtain ⟨rfl, rfl⟩ := DataW.Trod.unique (v := .agg V.cellsK) ⟨fuel, hd⟩ ⟨3, V.reads_kw enc W _⟩
  have k0 := h0
  have lt0 : ∀ x ∈ p0, x.block < W.heap.size := by obtain ⟨m, hm⟩ := k0; exact DataW.trod_lt m _ _ _ hm
  obtain ⟨g0, e0, o0⟩ : ∃ A : V.CavTermT, v0 = .agg #[.string A.f0, .int .i64 A.f1, .string A.f2, .int .i64 A.f3, .int .i64 A.f4, .string A.f5, .string A.f6] ∧ A.Ok := by
    obtain ⟨cs0, rfl, _⟩ := okWide_struct Tryd.underlying25 (hval 0 25 v0 rfl rfl)
    obtain ⟨n0, hm0⟩ := h0
    obtain ⟨A0, e0, ok0⟩ := V.read_CavTerm hm0
    refine ⟨A0, ?_, ok0⟩
    obtain ⟨l0⟩ := cs0
    simp [Value.cells] at e0
    subst e0
    rfl
  subst e0
  clear hA0 hV0 hval0
  have hM := V.signs_of (V.cells_of_laid hL)
  refine (walk g0 W o0 (V.tab_of_laid hL) hM).mono fun e W' ⟨he, bel⟩ => ?_
  subst he
  exact ⟨_, rfl, _, _, _, [], _, _, hW', trodAll_mk1 (shut_bool Tryd.underlying4 _), (trodAll_cons_mk (Below.trod V.laidOut (by kernel_rfl) (of_decide_eq_true (by kernel_rfl)) k0 bel lt0) trodAll_mk0), V.vars_kept enc (V.cells_of_laid hL) hM.z bel, bel.frame _, fun h => by cases h⟩

theorem row : Rows.FnExactTermTextSaid :=
  OpenClaim.holds_of_wide 3 Tryd.f3 rfl rfl rfl rfl rfl rfl rfl ⟨rfl, rfl, rfl, rfl, rfl⟩ rfl rfl rfl rfl rfl (by kernel_rfl) Tryd.func3 (by kernel_rfl)
    (of_decide_eq_true (by kernel_rfl)) (by unfold Func.isWrapper; first | (rw [if_pos (by decide +kernel)]; kernel_rfl) | (rw [if_neg (by decide +kernel)]; exact ⟨rfl, rfl⟩))
    (fun os started H enc _ => lifted os started H enc)
theorem card : Rows.FnExactTermTextCardSaid :=
  Claim7.holds_tied_plain_at .later [] [.data, .data, .data, .data] true (true, "342f0ec9df53df7dfd5533ffd97aa6eead9f6b8b4fefb79a30390af444a56625") false
    row (fun _ h => by cases h) (by kernel_rfl) (fun _ h => by cases h) fnExactTermText_row_tie rfl ⟨rfl, rfl⟩ (by kernel_rfl) rfl
    (fun f fn hf hfn => by
      obtain rfl : f = 3 := Option.some.inj ((show Tryd.prog.funcNamed "loop.example/g00036/laws.FnExactTermText" = some 3 by kernel_rfl).symm.trans hf) |>.symm
      obtain rfl : fn = Tryd.f3 := (Option.some.inj (Tryd.func3.symm.trans hfn)).symm
      exact ⟨by kernel_rfl, fun j t ht => by
        rw [Tryd.params3] at ht
        have hm : t ∈ [25] := by simpa using Array.mem_of_getElem? ht
        have hall : ([25].all fun u => !Tryd.prog.wantsStandIn u) = true := by kernel_rfl
        exact (show Tryd.prog.wantsStandIn t = false by simpa using List.all_eq_true.1 hall t hm)⟩)
    (by kernel_rfl)
end Go.Proofs.YtfnnbdelmpahmaaDoor.fnExactTermText
namespace Go.Proofs.YtfnnbdelmpahmaaDoor
theorem fnExactTermText_holds : Rows.FnExactTermTextCardSaid := fnExactTermText.card
end Go.Proofs.YtfnnbdelmpahmaaDoor
