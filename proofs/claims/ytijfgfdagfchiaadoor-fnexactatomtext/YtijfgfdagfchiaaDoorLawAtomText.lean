/- The row and the card of laws.FnExactAtomText: its walk, then the row's step. -/
import Derived.Test.YtijfgfdagfchiaaDoorRows
import Derived.Test.YtijfgfdagfchiaaDoorCards
import Derived.Test.YtijfgfdagfchiaaDoorTie
import Derived.Test.YtijfgfdagfchiaaDoorQLk
import Derived.WalkKit
import Derived.ProofKit
import Derived.OpenShut
import Derived.ShutString
import Derived.ChangeOld
import Derived.Below
import Derived.Lib.SmallJoins
import Derived.LaidMore
import Derived.ChangeVars
import Derived.SevenTiedAt
import Derived.Stop.Joined
namespace Go.Proofs.YtijfgfdagfchiaaDoor.fnExactAtomText
open Go.ChangeShapes Go.WideShapes Go.ChangeAt Go.RowKit Go.Joins
set_option linter.unusedVariables false

theorem walk (x n : Int) (t y : ByteArray) (w : World) (b : (Lit.int .i64 n).wf = true) (ht : t.size ≤ maxLen) (hy : y.size ≤ maxLen) (hT : Tab w) :
    Calls Tryd.prog 3 #[.agg #[.int .i64 x, .int .i64 n, .string t, .string y]] w fun e w' => e = .returned (.bool true) ∧ Below w.heap.size w w' := by
  have hb : -9223372036854775808 ≤ n ∧ n ≤ 9223372036854775807 := by
    have := b; simp [Lit.wf, IntKind.min, IntKind.max, IntKind.signed, IntKind.bits] at this; omega
  clear b
  obtain ⟨h8, h9⟩ := hb
  have hs := hide (fun w => sAtomText_any x n t y w h8 h9 ht hy)
  have hi := hide (fun w hT => iAtomText_any x n t y w h8 h9 ht hy hT)
  have HT := hide hT
  clear hT
  have R := hide (RowIs.new w #[.int .i64 x, .int .i64 n, .string t, .string y] 23)
  have B0 := hide (bAl (Below.refl w.heap.size w) (.cells #[.int .i64 x, .int .i64 n, .string t, .string y] 23))
  go_enter Tryd.func3, Tryd.ntmps3
  go_wp2_with fail
  refine (szAtom_any x n _ t y _ (by omega) (by omega) ht hy).mono ?_
  rintro e w1 ⟨⟨m, hm1, hm2, rfl⟩, hb1⟩
  replace R := hide ((unhide R).keep hb1)
  have B1 := hide (bTr (unhide B0) hb1)
  clear hb1 B0
  have c0 := (unhide R).at (o := 0) (v := .int .i64 x) rfl
  have c1 := (unhide R).at (o := 1) (v := .int .i64 n) rfl
  have c2 := (unhide R).at (o := 2) (v := .string t) rfl
  have c3 := (unhide R).at (o := 3) (v := .string y) rfl
  by_cases hm : m < 0
  · go_wp2_with fail
    go_ret
    exact ⟨rfl, unhide B1⟩
  go_wp2_with fail
  refine (toAtom_any x n t y _).mono ?_
  rintro e w2 ⟨rfl, hb2⟩
  replace R := hide ((unhide R).keep hb2)
  have B2 := hide (bTr (unhide B1) hb2)
  clear hb2 B1 c0 c1 c2 c3
  go_wp2_with fail
  refine (unhide hs _).mono ?_
  rintro e w3 ⟨rfl, hb3⟩
  replace R := hide ((unhide R).keep hb3)
  have B3 := hide (bTr (unhide B2) hb3)
  clear hb3 B2
  have c0 := (unhide R).at (o := 0) (v := .int .i64 x) rfl
  have c1 := (unhide R).at (o := 1) (v := .int .i64 n) rfl
  have c2 := (unhide R).at (o := 2) (v := .string t) rfl
  have c3 := (unhide R).at (o := 3) (v := .string y) rfl
  go_wp2_with fail
  refine (toAtom_any x n t y _).mono ?_
  rintro e w4 ⟨rfl, hb4⟩
  have B4 := hide (bTr (unhide B3) hb4)
  clear hb4 B3 c0 c1 c2 c3 R
  go_wp2_with fail
  refine (unhide hi _ ((unhide HT).keep (unhide B4))).mono ?_
  rintro e w5 ⟨rfl, hb5⟩
  have B5 := hide (bTr (unhide B4) hb5)
  clear hb5 B4 hs hi
  generalize atomT x n t y = T
  go_wp2_with fail
  go_ret
  exact ⟨rfl, unhide B5⟩

set_option maxRecDepth 100000 in
theorem lifted (os : Os) (started : os.Started) (H : Type) (enc : TypeId × Value → H) :
    ReturnsInHanded {} Tryd.checked os 3 .any (fun w args => (Rows.fnExactAtomTextSpec.pre enc Tryd.prog Tryd.f3 [] false w args ∧ laidMetH Tryd.prog laidL w) ∧ sizedMet enc Tryd.prog Tryd.f3 (OpenSpec.ofChange Rows.fnExactAtomTextSpec) false w args)
      (Rows.fnExactAtomTextSpec.post enc Tryd.prog Tryd.f3 false true false false) := by
  refine returnsInHanded_of_change_and (C := Tryd.checked) (X := fun w _ => laidMetH Tryd.prog laidL w) (fun _ _ _ hh h => h.of_heap hh) own started (by kernel_rfl) Tryd.func3
    (ChangeSpec.witness_shaped (enc := enc) (C := Tryd.checked) (os := os) (X := fun w _ => laidMetH Tryd.prog laidL w) false (World.doorLaid Tryd.prog 400 os) #[.agg #[.int .i64 0, .int .i64 0, .string ByteArray.empty, .string ByteArray.empty]] 8 rfl (World.shaped_of_RefB (by kernel_rfl) (by kernel_rfl)) (by kernel_rfl) (by kernel_rfl) (by kernel_rfl) (door_met os _)) ?_
  intro W base args ds gs before hval0 hW _ _ hL _
  have hval : ∀ (j : Nat) t v, Tryd.f3.params[j]? = some t → args[j]? = some v → Value.okWide Tryd.prog W .any base t v := hval0
  have hW' := hW
  obtain ⟨p, q, hA0, hV, rfl, hfz, hnd⟩ := hW
  have hA : DataW.TrodAll enc Tryd.prog W 0 (fun _ => true) true Tryd.f3.params.toList args.toList ds p := hA0
  rw [Tryd.params3] at hA hval
  obtain ⟨v0, vs0, d0, ds0, p0, q0, hargs, rfl, rfl, h0, r0⟩ := trodAll_cons hA
  obtain ⟨rfl, rfl, rfl⟩ := trodAll_nil r0
  obtain rfl : args = #[v0] := by cases args; simp_all
  obtain ⟨rfl, rfl⟩ := trodVars_none hV
  have k0 := h0
  have lt0 : ∀ x ∈ p0, x.block < W.heap.size := by obtain ⟨m, hm⟩ := k0; exact DataW.trod_lt m _ _ _ hm
  obtain ⟨x0, n0, t0, y0, e0, b0, c0, f0⟩ : ∃ (x n : Int) (t y : ByteArray), v0 = .agg #[.int .i64 x, .int .i64 n, .string t, .string y] ∧ (Lit.int .i64 n).wf = true ∧ t.size ≤ maxLen ∧ y.size ≤ maxLen := by
    obtain ⟨c0, c1, c2, c3, y0, y1, y2, y3, m, rfl, _, _, g0, g1, g2, g3⟩ := open_agg4 Tryd.underlying23 (by kernel_rfl) (by kernel_rfl) (hval 0 23 v0 rfl rfl) h0
    obtain ⟨a, q0, _, _⟩ := DataW.trod_int Tryd.underlying3 g0
    obtain ⟨b, q1, _, wb⟩ := DataW.trod_int Tryd.underlying3 g1
    obtain ⟨s, q2, _, ws⟩ := DataW.trod_string Tryd.underlying9 g2
    obtain ⟨r, q3, _, wr⟩ := DataW.trod_string Tryd.underlying9 g3
    simp at q0 q1 q2 q3
    subst q0 q1 q2 q3
    exact ⟨a, b, s, r, rfl, wb, ws, wr⟩
  subst e0
  clear hA0 hval0
  refine (walk x0 n0 t0 y0 W b0 c0 f0 (tab_of_laid hL)).mono fun e W' ⟨he, bel⟩ => ?_
  subst he
  exact ⟨_, rfl, _, _, _, [], _, [], hW', trodAll_mk1 (shut_bool Tryd.underlying4 _), (trodAll_cons_mk (Below.trod laidOut (by kernel_rfl) (of_decide_eq_true (by kernel_rfl)) k0 bel lt0) trodAll_mk0), rfl, bel.frame _, fun h => by cases h⟩

theorem row : Rows.FnExactAtomTextSaid :=
  OpenClaim.holds_of_wide 3 Tryd.f3 rfl rfl rfl rfl rfl rfl rfl ⟨rfl, rfl, rfl, rfl, rfl⟩ rfl rfl rfl rfl rfl (by kernel_rfl) Tryd.func3 (by kernel_rfl)
    (of_decide_eq_true (by kernel_rfl)) (by unfold Func.isWrapper; first | (rw [if_pos (by decide +kernel)]; kernel_rfl) | (rw [if_neg (by decide +kernel)]; exact ⟨rfl, rfl⟩))
    (fun os started H enc _ => lifted os started H enc)
theorem card : Rows.FnExactAtomTextCardSaid :=
  Claim7.holds_tied_plain_at .later [] [.data, .data, .data] true (true, "a48e19784cc3adb8627caad382c12fdbf09043b4ea73b561e6c1cace18afbcce") false
    row (fun _ h => by cases h) (by kernel_rfl) (fun _ h => by cases h) fnExactAtomText_row_tie rfl ⟨rfl, rfl⟩ (by kernel_rfl) rfl
    (fun f fn hf hfn => by
      obtain rfl : f = 3 := Option.some.inj ((show Tryd.prog.funcNamed "loop.example/g00036/laws.FnExactAtomText" = some 3 by kernel_rfl).symm.trans hf) |>.symm
      obtain rfl : fn = Tryd.f3 := (Option.some.inj (Tryd.func3.symm.trans hfn)).symm
      exact ⟨by kernel_rfl, fun j t ht => by
        rw [Tryd.params3] at ht
        have hm : t ∈ [23] := by simpa using Array.mem_of_getElem? ht
        have hall : ([23].all fun u => !Tryd.prog.wantsStandIn u) = true := by kernel_rfl
        exact (show Tryd.prog.wantsStandIn t = false by simpa using List.all_eq_true.1 hall t hm)⟩)
    (by kernel_rfl)
end Go.Proofs.YtijfgfdagfchiaaDoor.fnExactAtomText
namespace Go.Proofs.YtijfgfdagfchiaaDoor
theorem fnExactAtomText_holds : Rows.FnExactAtomTextCardSaid := fnExactAtomText.card
end Go.Proofs.YtijfgfdagfchiaaDoor
