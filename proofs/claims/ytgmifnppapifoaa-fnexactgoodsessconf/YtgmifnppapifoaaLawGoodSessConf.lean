/- The row of laws.FnExactGoodSessConf: its walk, then the row's step. -/
import Derived.Test.YtgmifnppapifoaaRows
import Derived.Test.YtgmifnppapifoaaSCg
import Derived.Test.YtgmifnppapifoaaZLd
import Derived.WalkKit
import Derived.ProofKit
import Derived.OpenShut
import Derived.ShutString
import Derived.ChangeOld
import Derived.Below
import Derived.Lib.SmallJoins
namespace Go.Proofs.Ytgmifnppapifoaa.fnExactGoodSessConf
open Go.ChangeShapes Go.WideShapes Go.ChangeAt Go.RowKit Go.Joins
open Go.ChangeMaps (open_string shut_string)
set_option linter.unusedVariables false

theorem own : ownKnob Try.prog.godebug = none := by kernel_rfl
theorem laidOut : laidOutB Try.prog = true := by kernel_rfl


open V in
set_option maxRecDepth 40000 in
set_option maxHeartbeats 8000000 in
theorem walk (e : V.SessConfE) (w : World) (hn : V.SessConfN e.t) (hm : V.SessConfM w 0 e) :
    Calls Try.prog 3 #[.agg #[.slice e.h0.a e.h0.len e.h0.cap, .int .i64 e.t.f1, .int .i64 e.t.f2]] w fun r w' => r = .returned (.bool true) ∧ Below w.heap.size w w' := by
  have qz := hide (fun q w h0 h1 hm => V.szSessConf_n e q w h0 h1 hn hm)
  have qt := hide (fun w hs hm => V.toSessConf_n e w hs hm)
  have HN := hide hn
  have HM := hide hm
  have QV := hide (V.RowIs.new w #[.slice e.h0.a e.h0.len e.h0.cap, .int .i64 e.t.f1, .int .i64 e.t.f2] 24)
  have B := hide (bAl (Below.refl w.heap.size w) (.cells #[.slice e.h0.a e.h0.len e.h0.cap, .int .i64 e.t.f1, .int .i64 e.t.f2] 24))
  clear hn hm
  go_enter Try.func3, Try.ntmps3
  go_upto_region 2 with fail
  go_step
  refine wpList_load_row rfl 24 _ rfl _ rfl 24 _ (0, 0) _ (unhide QV) Try.underlying24 rfl (by kernel_rfl) ?_
  go_wp2_with fail
  refine (unhide qz _ _ (by omega) (by omega) ((unhide HM).keep (unhide B))).mono ?_
  rintro r w1 ⟨⟨m, hm1, hm2, hm3, rfl⟩, hb1⟩
  replace QV := hide ((unhide QV).keep hb1)
  replace B := hide (bTr (unhide B) hb1)
  clear hb1 qz
  by_cases hlt : m < 0
  · go_wp2_with fail
    go_ret
    exact ⟨rfl, unhide B⟩
  have QT := hide (fun w hm => unhide qt w (hm3 (by omega)) hm)
  clear qt hm3
  go_upto_region 5 with fail
  go_step
  refine wpList_load_row rfl 24 _ rfl _ rfl 24 _ (0, 0) _ (unhide QV) Try.underlying24 rfl (by kernel_rfl) ?_
  go_wp2_with fail
  refine (unhide QT _ ((unhide HM).keep (unhide B))).mono ?_
  rintro r w2 ⟨⟨e2, t2, rfl, m2⟩, hb2⟩
  have hs2 : Hid (Calls Try.prog 5 #[.agg #[.slice e2.h0.a e2.h0.len e2.h0.cap, .int .i64 e2.t.f1, .int .i64 e2.t.f2]] w2 fun r w' => V.RetB r (V.GSc e.t) ∧ Below w2.heap.size w2 w') := hide ((V.sGoodSessConf_m e2 w2 (by rw [t2]; exact unhide HN) (m2.lo (Nat.zero_le _))).mono fun _ _ h => by rw [t2] at h; exact h)
  replace QV := hide ((unhide QV).keep hb2)
  replace B := hide (bTr (unhide B) hb2)
  clear hb2 m2 t2
  go_wp2_with fail
  refine (unhide hs2).mono ?_
  rintro r w3 ⟨⟨g, rfl, hg⟩, hb3⟩
  have HG := hide hg
  replace QV := hide ((unhide QV).keep hb3)
  replace B := hide (bTr (unhide B) hb3)
  clear hb3 hs2 hg
  go_upto_region 6 with fail
  go_step
  refine wpList_load_row rfl 24 _ rfl _ rfl 24 _ (0, 0) _ (unhide QV) Try.underlying24 rfl (by kernel_rfl) ?_
  go_wp2_with fail
  refine (unhide QT _ ((unhide HM).keep (unhide B))).mono ?_
  rintro r w4 ⟨⟨e4, t4, rfl, m4⟩, hb4⟩
  replace QV := hide ((unhide QV).keep hb4)
  replace B := hide (bTr (unhide B) hb4)
  clear hb4
  obtain ⟨W5, hW5⟩ : ∃ W, W = (w4.alloc (.cells #[.slice none 0 0, .int .i64 0, .int .i64 0] 27)).setRow w4.heap.size #[.slice e4.h0.a e4.h0.len e4.h0.cap, .int .i64 e4.t.f1, .int .i64 e4.t.f2] := ⟨_, rfl⟩
  have HW5 := hide hW5.symm
  have b45 : Below w4.heap.size w4 W5 := by rw [hW5]; exact V.bRow (bAl (Below.refl _ _) _) (Nat.le_refl _) _
  have QX := hide (show V.RowIs W5 w4.heap.size #[.slice e4.h0.a e4.h0.len e4.h0.cap, .int .i64 e4.t.f1, .int .i64 e4.t.f2] 27 by rw [hW5]; exact setRow_heap _ _ _ _ _ _ (V.RowIs.new w4 #[.slice none 0 0, .int .i64 0, .int .i64 0] 27))
  have S4 : Hid (V.SessConfM W5 0 e4) := hide ((m4.lo (Nat.zero_le _)).keep b45)
  have T4 := hide t4
  have hi : Hid (Calls Try.prog 7 #[.agg #[.slice e4.h0.a e4.h0.len e4.h0.cap, .int .i64 e4.t.f1, .int .i64 e4.t.f2]] W5 fun r w' => V.RetB r (V.GSc e.t) ∧ Below W5.heap.size W5 w') := hide ((V.iGoodSessConf_m e4 W5 (by rw [t4]; exact unhide HN) (unhide S4)).mono fun _ _ h => by rw [t4] at h; exact h)
  replace QV := hide ((unhide QV).keep b45)
  replace B := hide (bTr (unhide B) b45)
  clear hW5 b45 m4 t4
  iterate 5 (try (first | go_values | go_skip | go_guarded | go_step | go_upon | go_simp))
  refine wpList_store_row rfl 27 _ _ rfl w4.heap.size #[.slice e4.h0.a e4.h0.len e4.h0.cap, .int .i64 e4.t.f1, .int .i64 e4.t.f2] rfl rfl 27 _ (V.RowIs.new w4 #[.slice none 0 0, .int .i64 0, .int .i64 0] 27) (by kernel_rfl) rfl (by simp [Value.oneCell']) ?_
  rw [unhide HW5]
  clear HW5
  go_upto_region 7 with fail
  go_step
  refine wpList_load_row rfl 27 _ rfl _ rfl 27 _ (0, 0) _ (unhide QX) Try.underlying27 rfl (by kernel_rfl) ?_
  go_wp2_with fail
  refine (unhide hi).mono ?_
  rintro r w6 ⟨⟨g', rfl, hg'⟩, hb6⟩
  obtain rfl : g' = g := by
    have h := unhide HG
    cases g <;> cases g' <;> simp_all
  replace QV := hide ((unhide QV).keep hb6)
  replace QX := hide ((unhide QX).keep hb6)
  replace S4 := hide ((unhide S4).keep hb6)
  replace B := hide (bTr (unhide B) hb6)
  clear hb6 hi hg' HG
  have he : (g' != g') = false := by simp
  go_upto_region 10 with fail
  refine wp_region_held_drew (S := fun w' => V.RowIs w' w4.heap.size #[.slice e4.h0.a e4.h0.len e4.h0.cap, .int .i64 e4.t.f1, .int .i64 e4.t.f2] 27 ∧ V.RowIs w' w.heap.size #[.slice e.h0.a e.h0.len e.h0.cap, .int .i64 e.t.f1, .int .i64 e.t.f2] 24) (by kernel_rfl) ⟨unhide QX, unhide QV⟩ (fun hHeld => ?_)
  refine wpAnyH_take (i := 0) (v := .agg #[.slice e4.h0.a e4.h0.len e4.h0.cap, .int .i64 e4.t.f1, .int .i64 e4.t.f2]) rfl (by kernel_rfl) (by kernel_rfl) (by kernel_rfl) (fun _ _ _ h => h) (V.yields_row (by rfl) 27 _ rfl w4.heap.size rfl 27 _ _ (fun w h => h.1) Try.underlying27 rfl (by kernel_rfl)) (by assumption) ?_
  simp only [Act.put, List.setIfInBounds_toArray]
  refine wpAnyH_take (i := 1) (v := .agg #[.slice e.h0.a e.h0.len e.h0.cap, .int .i64 e.t.f1, .int .i64 e.t.f2]) rfl (by kernel_rfl) (by kernel_rfl) (by kernel_rfl) (fun _ _ _ h => h) (V.yields_row (by rfl) 24 _ rfl w.heap.size rfl 24 _ _ (fun w h => h.2) Try.underlying24 rfl (by kernel_rfl)) (by assumption) ?_
  simp only [Act.put]
  refine wpAnyH_ready (rs := [2]) (by kernel_rfl) (by simp) ?_
  refine AllReadyH.cons (o := { dst := some 24, op := Op.call { callee := Callee.value (Operand.func 6), args := #[Operand.tmp 23], argTypes := #[24] }, type := 27, pos := "exact.go:11291", after := #[{ on := 1, ground := Ground.data }], guard := none }) rfl (fun K hK => ?_) AllReadyH.nil
  clear hHeld
  refine V.step_call1 _ (by rfl) 6 _ _ (by rfl) (.agg #[.slice e.h0.a e.h0.len e.h0.cap, .int .i64 e.t.f1, .int .i64 e.t.f2]) (by rfl) (V.entY_of Try.func6 (by kernel_rfl) (by kernel_rfl)) (unhide QT _ ((unhide HM).keep (unhide B).drew)) ?_
  rintro r w7 ⟨⟨e7, t7, rfl, m7⟩, hb7⟩
  replace hb7 := hide (V.undrew hb7)
  replace m7 := hide m7
  refine ⟨_, rfl, ?_⟩
  refine hK.out _ _ ⟨(unhide QX).keep (unhide hb7), (unhide QV).keep (unhide hb7)⟩ (fun hHeld2 => ?_)
  clear hK hHeld2
  simp only [Act.put]
  refine wpAnyH_ready (rs := [3]) (by kernel_rfl) (by simp) ?_
  refine AllReadyH.cons (o := { dst := some 25, op := Op.call { callee := Callee.value (Operand.func 8), args := #[Operand.tmp 22, Operand.tmp 24], argTypes := #[27, 27] }, type := 4, pos := "exact.go:11291", after := #[{ on := 0, ground := Ground.data }, { on := 2, ground := Ground.data }, { on := 2, ground := Ground.chain }], guard := none }) rfl (fun K hK => ?_) AllReadyH.nil
  refine V.step_call2 _ (by rfl) 8 _ _ _ (by rfl) (.agg #[.slice e4.h0.a e4.h0.len e4.h0.cap, .int .i64 e4.t.f1, .int .i64 e4.t.f2]) (.agg #[.slice e7.h0.a e7.h0.len e7.h0.cap, .int .i64 e7.t.f1, .int .i64 e7.t.f2]) (by rfl) (by rfl) (V.entY_of Try.func8 (by kernel_rfl) (by kernel_rfl)) (V.eqSessConf_n e4 e7 _ (by rw [t7, unhide T4]) (by rw [unhide T4]; exact unhide HN) ((unhide S4).keep (unhide hb7)) ((unhide m7).lo (Nat.zero_le _))) ?_
  rintro r w8 ⟨rfl, hb8⟩
  replace hb8 := hide hb8
  refine ⟨_, rfl, ?_⟩
  refine hK.out _ _ ⟨((unhide QX).keep (unhide hb7)).keep (unhide hb8), ((unhide QV).keep (unhide hb7)).keep (unhide hb8)⟩ (fun hHeld3 => ?_)
  clear hK hHeld3
  simp only [Act.put]
  refine wpAnyH_ready (rs := [4]) (by kernel_rfl) (by simp) ?_
  refine AllReadyH.cons (o := { dst := some 26, op := Op.unOp UnOp.not 4 (Operand.tmp 25), type := 4, pos := "exact.go:11291", after := #[{ on := 3, ground := Ground.data }], guard := none }) rfl (fun K hK => ?_) AllReadyH.nil
  rw [if_pos (by rfl)]
  have HK := hide hK
  clear hK
  go_wp2_with fail
  refine (unhide HK).out _ _ ⟨((unhide QX).keep (unhide hb7)).keep (unhide hb8), ((unhide QV).keep (unhide hb7)).keep (unhide hb8)⟩ (fun hHeld4 => ?_)
  clear HK
  refine wpAnyH_done (by kernel_rfl) ?_ _
  clear hHeld4
  go_wp2_with fail
  go_ret
  exact ⟨rfl, bTr (bTr (unhide B) (unhide hb7)) (unhide hb8)⟩

set_option maxRecDepth 100000 in
theorem lifted (os : Os) (started : os.Started) (H : Type) (enc : TypeId × Value → H) :
    ReturnsInHanded {} Try.checked os 3 .any (Rows.fnExactGoodSessConfSpec.pre6 enc Try.prog Try.f3 Rows.fnExactGoodSessConfRow.domain false) (Rows.fnExactGoodSessConfSpec.post enc Try.prog Try.f3 false true false false) := by
  refine returnsInHanded_of_change (C := Try.checked) own started (by kernel_rfl) Try.func3
    (ChangeSpec.witness6 (enc := enc) (C := Try.checked) false ⟨#[], #[.agg #[.slice none 0 0, .int .i64 0, .int .i64 0]], []⟩ 8 (by kernel_rfl) (by kernel_rfl) (by kernel_rfl) (by kernel_rfl)) ?_
  intro W base args ds gs before hval0 hW hcnd _
  have hval : ∀ (j : Nat) t v, Try.f3.params[j]? = some t → args[j]? = some v → Value.okWide Try.prog W .any base t v := hval0
  have hW' := hW
  obtain ⟨p, q, hA0, hV, rfl, hfz, hnd⟩ := hW
  have hA : DataW.TrodAll enc Try.prog W 0 (fun _ => true) true Try.f3.params.toList args.toList ds p := hA0
  rw [Try.params3] at hA hval
  obtain ⟨v0, vs0, d0, ds0, p0, q0, hargs, rfl, rfl, h0, r0⟩ := trodAll_cons hA
  obtain ⟨rfl, rfl, rfl⟩ := trodAll_nil r0
  obtain rfl : args = #[v0] := by cases args; simp_all
  obtain ⟨rfl, rfl⟩ := trodVars_none hV
  have k0 := h0
  have lt0 : ∀ x ∈ p0, x.block < W.heap.size := by obtain ⟨m, hm⟩ := k0; exact DataW.trod_lt m _ _ _ hm
  obtain ⟨g0, e0, o0, s0⟩ := V.came_SessConf (hval 0 24 v0 rfl rfl) h0
  subst e0
  clear hA0 hval0
  refine (walk g0 W o0 s0).mono fun e W' ⟨he, bel⟩ => ?_
  subst he
  exact ⟨_, rfl, _, _, _, [], _, [], hW', trodAll_mk1 (shut_bool Try.underlying4 _), (trodAll_cons_mk (Below.trod laidOut (by kernel_rfl) (of_decide_eq_true (by kernel_rfl)) k0 bel lt0) trodAll_mk0), rfl, bel.frame _, fun h => by cases h⟩

theorem over : Rows.fnExactGoodSessConfRow.holds Try.pinned (OpenSpec.ofChange Rows.fnExactGoodSessConfSpec) :=
  OpenClaim.holds_of_wide 3 Try.f3 rfl rfl rfl rfl rfl rfl rfl ⟨rfl, rfl, rfl, rfl, rfl⟩ rfl rfl rfl rfl rfl (by kernel_rfl) Try.func3 (by kernel_rfl)
    (of_decide_eq_true (by kernel_rfl)) (by unfold Func.isWrapper; rw [if_neg (by decide +kernel)]; exact ⟨rfl, rfl⟩)
    (fun os started H enc _ => lifted os started H enc)
end Go.Proofs.Ytgmifnppapifoaa.fnExactGoodSessConf
namespace Go.Proofs.Ytgmifnppapifoaa
theorem fnExactGoodSessConf_holds : Rows.FnExactGoodSessConfSaid := fnExactGoodSessConf.over
end Go.Proofs.Ytgmifnppapifoaa
