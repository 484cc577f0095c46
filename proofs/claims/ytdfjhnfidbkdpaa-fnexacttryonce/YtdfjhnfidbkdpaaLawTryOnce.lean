/- The row of laws.FnExactTryOnce: its walk, then the row's step. -/
import Derived.Test.YtdfjhnfidbkdpaaRows
import Derived.Test.YtdfjhnfidbkdpaaKTl
import Derived.WalkKit
import Derived.ProofKit
import Derived.OpenShut
import Derived.ShutString
import Derived.ChangeOld
import Derived.Below
import Derived.Lib.SmallJoins
namespace Go.Proofs.Ytdfjhnfidbkdpaa.fnExactTryOnce
open Go.ChangeShapes Go.WideShapes Go.ChangeAt Go.RowKit Go.Joins
open Go.ChangeMaps (open_string shut_string)
set_option linter.unusedVariables false

theorem own : ownKnob Try.prog.godebug = none := by kernel_rfl
theorem laidOut : laidOutB Try.prog = true := by kernel_rfl

theorem at3 {w w' : World} {b T : Nat} {x : ThT} (h : RowIs w b #[.int .i64 x.f0, .int .i64 x.f1, .int .i64 x.f2] T) (hb : Below w.heap.size w w') :
    (w'.cell? ⟨b, 0, none⟩ = some (.int .i64 x.f0) ∧ w'.cell? ⟨b, 1, none⟩ = some (.int .i64 x.f1) ∧ w'.cell? ⟨b, 2, none⟩ = some (.int .i64 x.f2)) ∧ b < w'.heap.size :=
  ⟨⟨(h.keep hb).cell 0, (h.keep hb).cell 1, (h.keep hb).cell 2⟩, (h.keep hb).lt⟩
set_option maxRecDepth 20000 in
set_option maxHeartbeats 2000000 in
theorem walk (x : ThT) (t : Int) (r : Bool) (w : World) (hx : x.Ok) :
    Calls Try.prog 3 #[x.v, .int .i64 t, .bool r] w fun e w' => e = .returned (.bool true) ∧ Below w.heap.size w w' := by
  have q1 := hide (toThrottle_any x)
  have q2 := hide (sTryOnce_any x t r)
  have q3 := hide (iTryOnce_any x t r)
  have q4 := hide (eqThrottle_same (tryT x t r).1)
  generalize (tryT x t r).1 = y at *
  generalize (tryT x t r).2 = z at *
  obtain ⟨W0, hW0⟩ : ∃ W, W = w.alloc (.cells #[.int .i64 x.f0, .int .i64 x.f1, .int .i64 x.f2] 23) := ⟨_, rfl⟩
  have HR := hide (show RowIs W0 w.heap.size #[.int .i64 x.f0, .int .i64 x.f1, .int .i64 x.f2] 23 by rw [hW0]; exact RowIs.new _ _ _)
  have HB := hide (show Below w.heap.size w W0 by rw [hW0]; exact bAl (Below.refl _ _) _)
  have HW0 := hide hW0.symm
  clear hW0 hx
  unfold ThT.v at *
  go_enter Try.func3, Try.ntmps3
  go_wp2_with fail
  rw [unhide HW0]
  refine (unhide q1 _).mono ?_
  rintro e w1 ⟨rfl, hb1⟩
  go_wp2_with fail
  refine (unhide q2 _).mono ?_
  rintro e w2 ⟨rfl, hb2⟩
  have hb := bTr hb1 hb2
  obtain ⟨⟨d0, d1, d2⟩, zz⟩ := at3 (unhide HR) hb
  obtain ⟨W2, hW2⟩ : ∃ W, W = w2.alloc (.cells #[.int .i64 y.f0, .int .i64 y.f1, .int .i64 y.f2] 24) := ⟨_, rfl⟩
  have HR2 := hide (show RowIs W2 w2.heap.size #[.int .i64 y.f0, .int .i64 y.f1, .int .i64 y.f2] 24 by rw [hW2]; exact RowIs.new _ _ _)
  have HB2 := hide (show Below w.heap.size w W2 by rw [hW2]; exact bAl (bTr (unhide HB) hb) _)
  have HW2 := hide hW2.symm
  clear hb hb1 hb2 hW2
  go_wp2_with fail
  rw [unhide HW2]
  refine (unhide q1 _).mono ?_
  rintro e w3 ⟨rfl, hb3⟩
  clear d0 d1 d2 zz
  go_wp2_with fail
  refine (unhide q3 _).mono ?_
  rintro e w4 ⟨rfl, hb4⟩
  have hb := bTr hb3 hb4
  obtain ⟨⟨d0, d1, d2⟩, zz⟩ := at3 (unhide HR2) hb
  have HB3 := hide (bTr (unhide HB2) hb)
  clear hb hb3 hb4
  go_wp2_with fail
  refine (unhide q4 _).mono ?_
  rintro e w5 ⟨rfl, hb5⟩
  have k : (z != z) = false := by simp
  go_wp2_with fail
  go_ret
  exact ⟨rfl, bTr (bAl (unhide HB3) _) hb5⟩

set_option maxRecDepth 100000 in
theorem lifted (os : Os) (started : os.Started) (H : Type) (enc : TypeId × Value → H) :
    ReturnsInHanded {} Try.checked os 3 .any (Rows.fnExactTryOnceSpec.pre6 enc Try.prog Try.f3 Rows.fnExactTryOnceRow.domain false) (Rows.fnExactTryOnceSpec.post enc Try.prog Try.f3 false true false false) := by
  refine returnsInHanded_of_change (C := Try.checked) own started (by kernel_rfl) Try.func3
    (ChangeSpec.witness6 (enc := enc) (C := Try.checked) false ⟨#[], #[.agg #[.int .i64 0, .int .i64 0, .int .i64 0], .int .i64 0, .bool false], []⟩ 8 (by kernel_rfl) (by kernel_rfl) (by kernel_rfl) (by kernel_rfl)) ?_
  intro W base args ds gs before hval0 hW hcnd _
  have hval : ∀ (j : Nat) t v, Try.f3.params[j]? = some t → args[j]? = some v → Value.okWide Try.prog W .any base t v := hval0
  have hW' := hW
  obtain ⟨p, q, hA0, hV, rfl, hfz, hnd⟩ := hW
  have hA : DataW.TrodAll enc Try.prog W 0 (fun _ => true) true Try.f3.params.toList args.toList ds p := hA0
  rw [Try.params3] at hA hval
  obtain ⟨v0, vs0, d0, ds0, p0, q0, hargs, rfl, rfl, h0, r0⟩ := trodAll_cons hA
  obtain ⟨v1, vs1, d1, ds1, p1, q1, rfl, rfl, rfl, h1, r1⟩ := trodAll_cons r0
  obtain ⟨v2, vs2, d2, ds2, p2, q2, rfl, rfl, rfl, h2, r2⟩ := trodAll_cons r1
  obtain ⟨rfl, rfl, rfl⟩ := trodAll_nil r2
  obtain rfl : args = #[v0, v1, v2] := by cases args; simp_all
  obtain ⟨rfl, rfl⟩ := trodVars_none hV
  have k0 := h0
  have lt0 : ∀ x ∈ p0, x.block < W.heap.size := by obtain ⟨m, hm⟩ := k0; exact DataW.trod_lt m _ _ _ hm
  obtain ⟨c0, e0, o0⟩ := readv_Throttle (hval 0 23 v0 rfl rfl) h0
  subst e0
  obtain ⟨a1, rfl, rfl, rfl, w1⟩ := open_int Try.underlying3 (hval 1 3 v1 rfl rfl) h1
  obtain ⟨a2, rfl, rfl, rfl⟩ := open_bool Try.underlying4 (hval 2 4 v2 rfl rfl) h2
  clear hA0 hval0
  refine (walk c0 a1 a2 W o0).mono fun e W' ⟨he, bel⟩ => ?_
  subst he
  exact ⟨_, rfl, _, _, _, [], _, [], hW', trodAll_mk1 (shut_bool Try.underlying4 _), (trodAll_cons_mk (Below.trod laidOut (by kernel_rfl) (of_decide_eq_true (by kernel_rfl)) k0 bel lt0) (trodAll_cons_mk (shut_int Try.underlying3 w1) (trodAll_cons_mk (shut_bool Try.underlying4 a2) trodAll_mk0))), rfl, bel.frame _, fun h => by cases h⟩

theorem over : Rows.fnExactTryOnceRow.holds Try.pinned (OpenSpec.ofChange Rows.fnExactTryOnceSpec) :=
  OpenClaim.holds_of_wide 3 Try.f3 rfl rfl rfl rfl rfl rfl rfl ⟨rfl, rfl, rfl, rfl, rfl⟩ rfl rfl rfl rfl rfl (by kernel_rfl) Try.func3 (by kernel_rfl)
    (of_decide_eq_true (by kernel_rfl)) (by unfold Func.isWrapper; rw [if_neg (by decide +kernel)]; exact ⟨rfl, rfl⟩)
    (fun os started H enc _ => lifted os started H enc)
end Go.Proofs.Ytdfjhnfidbkdpaa.fnExactTryOnce
namespace Go.Proofs.Ytdfjhnfidbkdpaa
theorem fnExactTryOnce_holds : Rows.FnExactTryOnceSaid := fnExactTryOnce.over
end Go.Proofs.Ytdfjhnfidbkdpaa
