/- The row of laws.FnExactGoodChange: its walk, then the row's step. -/
import Derived.Test.YtfgemkpgafegjaaRows
import Derived.Test.YtfgemkpgafegjaaQChR
import Derived.Test.YtfgemkpgafegjaaQChSA
import Derived.Test.YtfgemkpgafegjaaQChA
import Derived.WalkKit
import Derived.ProofKit
import Derived.OpenShut
import Derived.ShutString
import Derived.ChangeOld
import Derived.Below
import Derived.Lib.SmallJoins
namespace Go.Proofs.Ytfgemkpgafegjaa.fnExactGoodChange
open Go.ChangeShapes Go.WideShapes Go.ChangeAt Go.RowKit Go.Joins
open Go.ChangeMaps (open_string shut_string)
set_option linter.unusedVariables false

theorem own : ownKnob Try.prog.godebug = none := by kernel_rfl
theorem laidOut : laidOutB Try.prog = true := by kernel_rfl

set_option maxHeartbeats 1000000 in
theorem walk (c : DcT) (w : World) (ok : c.Ok) :
    Calls Try.prog 3 #[.agg #[.int .i64 c.t, .int .i64 c.o, .int .i64 c.k, .int .i64 c.u, .int .i64 c.p, .string c.pa, .string c.pt, .string c.a, .string c.x]] w fun e w' => e = .returned (.bool true) ∧ Below w.heap.size w w' := by
  obtain ⟨t, o, k, u, p, pa, pt, a, x⟩ := c
  obtain ⟨i1, i2, i3, i4⟩ := ok
  simp only at i1 i2 i3 i4 ⊢
  have qz := hide (fun w l h0 h1 => szDirChange_any t o k u p pa pt a x l w h0 h1 i1 i2 i3 i4)
  have qt := hide (fun w => toDirChange_any t o k u p pa pt a x w)
  have qs := hide (fun w => sGoodChange_any t o k u p pa pt a x w i1 i2 i3 i4)
  have qi := hide (fun w => iGoodChange_any t o k u p pa pt a x w i1 i2 i3 i4)
  generalize chB ⟨t, o, k, u, p, pa, pt, a, x⟩ = T at qs qi
  clear i1 i2 i3 i4
  have R := hide (RowIs.new w #[.int .i64 t, .int .i64 o, .int .i64 k, .int .i64 u, .int .i64 p, .string pa, .string pt, .string a, .string x] 27)
  have B := hide (bAl (Below.refl w.heap.size w) (.cells #[.int .i64 t, .int .i64 o, .int .i64 k, .int .i64 u, .int .i64 p, .string pa, .string pt, .string a, .string x] 27))
  go_enter Try.func3, Try.ntmps3
  go_wp2_with fail
  refine (unhide qz _ _ (by omega) (by omega)).mono ?_
  rintro e w1 ⟨⟨m, hm1, hm2, rfl⟩, hb⟩
  have R1 := hide ((unhide R).keep hb)
  have B1 := hide (bTr (unhide B) hb)
  clear hb qz R B
  by_cases hm : m < 0
  · go_wp2_with fail
    go_ret
    exact ⟨rfl, unhide B1⟩
  have c0 := (unhide R1).at (o := 0) (v := .int .i64 t) rfl
  have c1 := (unhide R1).at (o := 1) (v := .int .i64 o) rfl
  have c2 := (unhide R1).at (o := 2) (v := .int .i64 k) rfl
  have c3 := (unhide R1).at (o := 3) (v := .int .i64 u) rfl
  have c4 := (unhide R1).at (o := 4) (v := .int .i64 p) rfl
  have c5 := (unhide R1).at (o := 5) (v := .string pa) rfl
  have c6 := (unhide R1).at (o := 6) (v := .string pt) rfl
  have c7 := (unhide R1).at (o := 7) (v := .string a) rfl
  have c8 := (unhide R1).at (o := 8) (v := .string x) rfl
  go_wp2_with fail
  refine (unhide qt _).mono ?_
  rintro e w2 ⟨rfl, hb2⟩
  have R2 := hide ((unhide R1).keep hb2)
  have B2 := hide (bTr (unhide B1) hb2)
  clear hb2 B1 R1 c0 c1 c2 c3 c4 c5 c6 c7 c8
  go_wp2_with fail
  refine (unhide qs _).mono ?_
  rintro e w3 ⟨rfl, hb3⟩
  have R3 := hide ((unhide R2).keep hb3)
  have B3 := hide (bTr (unhide B2) hb3)
  clear hb3 B2 R2 qs
  have c0 := (unhide R3).at (o := 0) (v := .int .i64 t) rfl
  have c1 := (unhide R3).at (o := 1) (v := .int .i64 o) rfl
  have c2 := (unhide R3).at (o := 2) (v := .int .i64 k) rfl
  have c3 := (unhide R3).at (o := 3) (v := .int .i64 u) rfl
  have c4 := (unhide R3).at (o := 4) (v := .int .i64 p) rfl
  have c5 := (unhide R3).at (o := 5) (v := .string pa) rfl
  have c6 := (unhide R3).at (o := 6) (v := .string pt) rfl
  have c7 := (unhide R3).at (o := 7) (v := .string a) rfl
  have c8 := (unhide R3).at (o := 8) (v := .string x) rfl
  go_wp2_with fail
  refine (unhide qt _).mono ?_
  rintro e w4 ⟨rfl, hb4⟩
  have B4 := hide (bTr (unhide B3) hb4)
  clear hb4 B3 R3 c0 c1 c2 c3 c4 c5 c6 c7 c8
  go_wp2_with fail
  refine (unhide qi _).mono ?_
  rintro e w5 ⟨rfl, hb5⟩
  have B5 := hide (bTr (unhide B4) hb5)
  clear hb5 B4
  have he : (T != T) = false := by simp
  go_wp2_with fail
  go_ret
  exact ⟨rfl, unhide B5⟩

set_option maxRecDepth 100000 in
theorem lifted (os : Os) (started : os.Started) (H : Type) (enc : TypeId × Value → H) :
    ReturnsInHanded {} Try.checked os 3 .any (Rows.fnExactGoodChangeSpec.pre6 enc Try.prog Try.f3 Rows.fnExactGoodChangeRow.domain false) (Rows.fnExactGoodChangeSpec.post enc Try.prog Try.f3 false true false false) := by
  refine returnsInHanded_of_change (C := Try.checked) own started (by kernel_rfl) Try.func3
    (ChangeSpec.witness6 (enc := enc) (C := Try.checked) false ⟨#[], #[.agg #[.int .i64 0, .int .i64 0, .int .i64 0, .int .i64 0, .int .i64 0, .string ByteArray.empty, .string ByteArray.empty, .string ByteArray.empty, .string ByteArray.empty]], []⟩ 8 (by kernel_rfl) (by kernel_rfl) (by kernel_rfl) (by kernel_rfl)) ?_
  intro W base args ds gs before hval0 hW hcnd _
  have hval : ∀ (j : Nat) t v, Try.f3.params[j]? = some t → args[j]? = some v → Value.okWide Try.prog W .any base t v := hval0
  have hW' := hW
  obtain ⟨p, q, hA0, hV, rfl, hfz, hnd⟩ := hW
  have hA : DataW.TrodAll enc Try.prog W 0 (fun _ => true) true Try.f3.params.toList args.toList ds p := hA0
  rw [Try.params3] at hA hval
  obtain ⟨v0, vs0, d0, ds0, p0, q0, hargs, rfl, rfl, h0, r0⟩ := trodAll_cons hA
  obtain ⟨rfl, rfl, rfl⟩ := trodAll_nil r0
  obtain rfl : args = #[v0] := by cases args; simp_all
  obtain ⟨rfl, rfl⟩ := trodVars_none hV
  have k0 := h0
  have lt0 : ∀ x ∈ p0, x.block < W.heap.size := by obtain ⟨m, hm⟩ := k0; exact DataW.trod_lt m _ _ _ hm
  obtain ⟨c0, e0, o0⟩ := read_chg (hval 0 27 v0 rfl rfl) h0
  subst e0
  clear hA0 hval0
  refine (walk c0 W o0).mono fun e W' ⟨he, bel⟩ => ?_
  subst he
  exact ⟨_, rfl, _, _, _, [], _, [], hW', trodAll_mk1 (shut_bool Try.underlying4 _), (trodAll_cons_mk (Below.trod laidOut (by kernel_rfl) (of_decide_eq_true (by kernel_rfl)) k0 bel lt0) trodAll_mk0), rfl, bel.frame _, fun h => by cases h⟩

theorem over : Rows.fnExactGoodChangeRow.holds Try.pinned (OpenSpec.ofChange Rows.fnExactGoodChangeSpec) :=
  OpenClaim.holds_of_wide 3 Try.f3 rfl rfl rfl rfl rfl rfl rfl ⟨rfl, rfl, rfl, rfl, rfl⟩ rfl rfl rfl rfl rfl (by kernel_rfl) Try.func3 (by kernel_rfl)
    (of_decide_eq_true (by kernel_rfl)) (by unfold Func.isWrapper; rw [if_neg (by decide +kernel)]; exact ⟨rfl, rfl⟩)
    (fun os started H enc _ => lifted os started H enc)
end Go.Proofs.Ytfgemkpgafegjaa.fnExactGoodChange
namespace Go.Proofs.Ytfgemkpgafegjaa
theorem fnExactGoodChange_holds : Rows.FnExactGoodChangeSaid := fnExactGoodChange.over
end Go.Proofs.Ytfgemkpgafegjaa
