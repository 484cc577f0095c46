/- LawInFragment, one behind the other. -/
import Derived.Test.YteaidfighimoiaaGreatRows
import Derived.Test.YteaidfighimoiaaGreatJ30
import Derived.Test.YteaidfighimoiaaGreatYLd
import Derived.WalkKit
import Derived.ProofKit
import Derived.OpenShut
import Derived.ShutString
import Derived.ChangeOld
import Derived.Below
import Derived.Lib.SmallJoins
/- The row of laws.FnExactInFragment: its walk, then the row's step. -/
namespace Go.Proofs.YteaidfighimoiaaGreat.fnExactInFragment
open Go.ChangeShapes Go.WideShapes Go.ChangeAt Go.RowKit Go.Joins
open Go.ChangeMaps (open_string shut_string)
set_option linter.unusedVariables false

theorem own : ownKnob Tryz.prog.godebug = none := by kernel_rfl
theorem laidOut : laidOutB Tryz.prog = true := by kernel_rfl


open V in
set_option maxRecDepth 40000 in
set_option maxHeartbeats 8000000 in
theorem walk (P : V.PolT) (a : Option Addr) (len cap : Nat) (w : World) (ho : P.Ok) (hs : V.SlExpr w a len P.wh) (hl : len ≤ maxLen) :
    Calls Tryz.prog 3 #[V.polAgg P (.slice a len cap)] w fun e w' => e = .returned (.bool true) ∧ Below w.heap.size w w' := by
  have qz := hide (fun q w h0 h1 hs => szPolicy_any P a len cap q w h0 h1 ho hl hs)
  have qt := hide (fun w g1 hs => toPolicy_any P a len cap w g1 hs)
  have HS := hide hs
  have HO := hide ho
  have ML := hide hl
  have hll := hide hs.1
  have QV := hide (V.RowIs.new w (V.polRow P (.slice a len cap)) 28)
  have B := hide (bAl (Below.refl w.heap.size w) (.cells (V.polRow P (.slice a len cap)) 28))
  clear hs ho hl
  go_enter Tryz.func3, Tryz.ntmps3
  go_upto_region 2 with fail
  go_step
  refine wpList_load_row rfl 28 _ rfl _ rfl 28 _ (0, 0) _ (unhide QV) Tryz.underlying28 rfl (by kernel_rfl) ?_
  go_wp2_with fail
  refine (unhide qz _ _ (by omega) (by omega) ((unhide HS).keep (unhide B))).mono ?_
  rintro e w1 ⟨⟨m, hm1, hm2, hm3, rfl⟩, hb1⟩
  replace QV := hide ((unhide QV).keep hb1)
  replace B := hide (bTr (unhide B) hb1)
  clear hb1 qz
  by_cases hm : m < 0
  · go_wp2_with fail
    go_ret
    exact ⟨rfl, unhide B⟩
  have g1 : len ≤ 1048576 := by omega
  have HX : Hid (∀ q ∈ P.wh, V.OkX q) := hide (fun q hq => by
    refine ⟨(unhide HO).wh q hq, ?_⟩
    obtain ⟨i, hi, rfl⟩ := List.getElem_of_mem hq
    have := (hm3 (by omega)).2 i hi (by have := unhide hll; omega)
    omega)
  have QT := hide (fun w hs => unhide qt w g1 hs)
  clear qt hm3
  go_upto_region 5 with fail
  go_step
  refine wpList_load_row rfl 28 _ rfl _ rfl 28 _ (0, 0) _ (unhide QV) Tryz.underlying28 rfl (by kernel_rfl) ?_
  go_wp2_with fail
  refine (unhide QT _ ((unhide HS).keep (unhide B))).mono ?_
  rintro e w2 ⟨b2, rfl, _, ⟨_, _, _, r2⟩, hb2⟩
  have hs2 := hide (sInFragment_any P (some ⟨b2, 0, none⟩) len len w2 (unhide HO) g1 (unhide HX) ⟨unhide hll, .inr ⟨b2, 0, rfl, r2⟩⟩)
  replace QV := hide ((unhide QV).keep hb2)
  replace B := hide (bTr (unhide B) hb2)
  clear hb2 r2
  go_wp2_with fail
  refine (unhide hs2).mono ?_
  rintro e w3 ⟨⟨g, rfl, hg⟩, hb3⟩
  have HG := hide hg
  replace QV := hide ((unhide QV).keep hb3)
  replace B := hide (bTr (unhide B) hb3)
  clear hb3 hs2 hg
  go_upto_region 6 with fail
  go_step
  refine wpList_load_row rfl 28 _ rfl _ rfl 28 _ (0, 0) _ (unhide QV) Tryz.underlying28 rfl (by kernel_rfl) ?_
  go_wp2_with fail
  refine (unhide QT _ ((unhide HS).keep (unhide B))).mono ?_
  rintro e w4 ⟨b4, rfl, _, ⟨_, _, _, r4⟩, hb4⟩
  replace QV := hide ((unhide QV).keep hb4)
  replace B := hide (bTr (unhide B) hb4)
  clear hb4
  obtain ⟨W5, hW5⟩ : ∃ W, W = (w4.alloc (.cells #[.string ⟨#[]⟩, .bool false, .int .i64 0, .int .i64 0, .int .i64 0, .string ⟨#[]⟩, .string ⟨#[]⟩, .string ⟨#[]⟩, .int .i64 0, .int .i64 0, .int .i64 0, .string ⟨#[]⟩, .string ⟨#[]⟩, .string ⟨#[]⟩, .int .i64 0, .int .i64 0, .int .i64 0, .string ⟨#[]⟩, .string ⟨#[]⟩, .string ⟨#[]⟩, .slice none 0 0] 36)).setRow w4.heap.size (V.polRow P (.slice (some ⟨b4, 0, none⟩) len len)) := ⟨_, rfl⟩
  have HW5 := hide hW5.symm
  have b45 : Below w4.heap.size w4 W5 := by rw [hW5]; exact V.bRowY (bAl (Below.refl _ _) _) (Nat.le_refl _) _
  have QX := hide (show V.RowIs W5 w4.heap.size (V.polRow P (.slice (some ⟨b4, 0, none⟩) len len)) 36 by rw [hW5]; exact setRow_heap _ _ _ _ _ _ (V.RowIs.new w4 #[.string ⟨#[]⟩, .bool false, .int .i64 0, .int .i64 0, .int .i64 0, .string ⟨#[]⟩, .string ⟨#[]⟩, .string ⟨#[]⟩, .int .i64 0, .int .i64 0, .int .i64 0, .string ⟨#[]⟩, .string ⟨#[]⟩, .string ⟨#[]⟩, .int .i64 0, .int .i64 0, .int .i64 0, .string ⟨#[]⟩, .string ⟨#[]⟩, .string ⟨#[]⟩, .slice none 0 0] 36))
  have S4 : Hid (V.SlExpr W5 (some ⟨b4, 0, none⟩) len P.wh) := hide ⟨unhide hll, .inr ⟨b4, 0, rfl, r4.keep b45⟩⟩
  have hi := hide (iInFragment_any P (some ⟨b4, 0, none⟩) len len W5 (unhide HO) g1 (Nat.le_refl _) (unhide S4))
  replace QV := hide ((unhide QV).keep b45)
  replace B := hide (bTr (unhide B) b45)
  clear hW5 b45 r4
  iterate 5 (try (first | go_values | go_skip | go_guarded | go_step | go_upon | go_simp))
  refine wpList_store_row rfl 36 _ _ rfl w4.heap.size (V.polRow P (.slice (some ⟨b4, 0, none⟩) len len)) rfl rfl 36 _ (V.RowIs.new w4 #[.string ⟨#[]⟩, .bool false, .int .i64 0, .int .i64 0, .int .i64 0, .string ⟨#[]⟩, .string ⟨#[]⟩, .string ⟨#[]⟩, .int .i64 0, .int .i64 0, .int .i64 0, .string ⟨#[]⟩, .string ⟨#[]⟩, .string ⟨#[]⟩, .int .i64 0, .int .i64 0, .int .i64 0, .string ⟨#[]⟩, .string ⟨#[]⟩, .string ⟨#[]⟩, .slice none 0 0] 36) (by kernel_rfl) rfl (by simp [Value.oneCell']) ?_
  rw [unhide HW5]
  clear HW5
  go_upto_region 7 with fail
  go_step
  refine wpList_load_row rfl 36 _ rfl _ rfl 36 _ (0, 0) _ (unhide QX) Tryz.underlying36 rfl (by kernel_rfl) ?_
  go_wp2_with fail
  refine (unhide hi).mono ?_
  rintro e w6 ⟨⟨g', rfl, hg'⟩, hb6⟩
  obtain rfl : g' = g := by
    have h := unhide HG
    cases g <;> cases g' <;> simp_all
  replace QV := hide ((unhide QV).keep hb6)
  replace QX := hide ((unhide QX).keep hb6)
  replace S4 := hide ((unhide S4).keep hb6)
  replace B := hide (bTr (unhide B) hb6)
  clear hb6 hi hg' HG HX
  have he : (g' != g') = false := by simp
  go_upto_region 10 with fail
  refine wp_region_held_drew (S := fun w' => V.RowIs w' w4.heap.size (V.polRow P (.slice (some ⟨b4, 0, none⟩) len len)) 36 ∧ V.RowIs w' w.heap.size (V.polRow P (.slice a len cap)) 28) (by kernel_rfl) ⟨unhide QX, unhide QV⟩ (fun hHeld => ?_)
  refine wpAnyH_take (i := 0) (v := .agg (V.polRow P (.slice (some ⟨b4, 0, none⟩) len len))) rfl (by kernel_rfl) (by kernel_rfl) (by kernel_rfl) (fun _ _ _ h => h) (V.yields_row (by rfl) 36 _ rfl w4.heap.size rfl 36 _ _ (fun w h => h.1) Tryz.underlying36 rfl (by kernel_rfl)) (by assumption) ?_
  simp only [Act.put, List.setIfInBounds_toArray]
  refine wpAnyH_take (i := 1) (v := .agg (V.polRow P (.slice a len cap))) rfl (by kernel_rfl) (by kernel_rfl) (by kernel_rfl) (fun _ _ _ h => h) (V.yields_row (by rfl) 28 _ rfl w.heap.size rfl 28 _ _ (fun w h => h.2) Tryz.underlying28 rfl (by kernel_rfl)) (by assumption) ?_
  simp only [Act.put]
  refine wpAnyH_ready (rs := [2]) (by kernel_rfl) (by simp) ?_
  refine AllReadyH.cons (o := { dst := some 24, op := Op.call { callee := Callee.value (Operand.func 6), args := #[Operand.tmp 23], argTypes := #[28] }, type := 36, pos := "exact.go:9807", after := #[{ on := 1, ground := Ground.data }], guard := none }) rfl (fun K hK => ?_) AllReadyH.nil
  clear hHeld
  refine V.step_call1 _ (by rfl) 6 _ _ (by rfl) (V.polAgg P (.slice a len cap)) (by rfl) V.ent_toPolicy (unhide QT _ ((unhide HS).keep (unhide B).drew)) ?_
  rintro e w7 ⟨b7, rfl, _, ⟨_, _, _, r7⟩, hb7⟩
  replace hb7 := hide (V.undrew hb7)
  replace r7 := hide r7
  refine ⟨_, rfl, ?_⟩
  refine hK.out _ _ ⟨(unhide QX).keep (unhide hb7), (unhide QV).keep (unhide hb7)⟩ (fun hHeld2 => ?_)
  clear hK hHeld2
  simp only [Act.put]
  refine wpAnyH_ready (rs := [3]) (by kernel_rfl) (by simp) ?_
  refine AllReadyH.cons (o := { dst := some 25, op := Op.call { callee := Callee.value (Operand.func 8), args := #[Operand.tmp 22, Operand.tmp 24], argTypes := #[36, 36] }, type := 4, pos := "exact.go:9807", after := #[{ on := 0, ground := Ground.data }, { on := 2, ground := Ground.data }, { on := 2, ground := Ground.chain }], guard := none }) rfl (fun K hK => ?_) AllReadyH.nil
  refine V.step_call2 _ (by rfl) 8 _ _ _ (by rfl) (V.polAgg P (.slice (some ⟨b4, 0, none⟩) len len)) (V.polAgg P (.slice (some ⟨b7, 0, none⟩) len len)) (by rfl) (by rfl) V.ent_eqPolicy (eqPolicy_same P (some ⟨b4, 0, none⟩) (some ⟨b7, 0, none⟩) len len len len _ (unhide ML) ((unhide S4).keep (unhide hb7)) ⟨unhide hll, .inr ⟨b7, 0, rfl, unhide r7⟩⟩) ?_
  rintro e w8 ⟨rfl, hb8⟩
  replace hb8 := hide hb8
  refine ⟨_, rfl, ?_⟩
  refine hK.out _ _ ⟨((unhide QX).keep (unhide hb7)).keep (unhide hb8), ((unhide QV).keep (unhide hb7)).keep (unhide hb8)⟩ (fun hHeld3 => ?_)
  clear hK hHeld3
  simp only [Act.put]
  refine wpAnyH_ready (rs := [4]) (by kernel_rfl) (by simp) ?_
  refine AllReadyH.cons (o := { dst := some 26, op := Op.unOp UnOp.not 4 (Operand.tmp 25), type := 4, pos := "exact.go:9807", after := #[{ on := 3, ground := Ground.data }], guard := none }) rfl (fun K hK => ?_) AllReadyH.nil
  rw [if_pos (by rfl)]
  have HK := hide hK
  clear hK
  go_wp2_with fail
  refine (unhide HK).out _ _ ⟨((unhide QX).keep (unhide hb7)).keep (unhide hb8), ((unhide QV).keep (unhide hb7)).keep (unhide hb8)⟩ (fun hHeld4 => ?_)
  clear HK
  refine wpAnyH_done (by kernel_rfl) ?_ _
  clear hHeld4
  go_wp2_with fail
  go_ret
  exact ⟨rfl, bTr (bTr (unhide B) (unhide hb7)) (unhide hb8)⟩

set_option maxRecDepth 100000 in
theorem lifted (os : Os) (started : os.Started) (H : Type) (enc : TypeId × Value → H) :
    ReturnsInHanded {} Tryz.checked os 3 .any (Rows.fnExactInFragmentSpec.pre6 enc Tryz.prog Tryz.f3 Rows.fnExactInFragmentRow.domain false) (Rows.fnExactInFragmentSpec.post enc Tryz.prog Tryz.f3 false true false false) := by
  refine returnsInHanded_of_change (C := Tryz.checked) own started (by kernel_rfl) Tryz.func3
    (ChangeSpec.witness6 (enc := enc) (C := Tryz.checked) false ⟨#[], #[.agg #[.string ByteArray.empty, .bool false, .int .i64 0, .int .i64 0, .int .i64 0, .string ByteArray.empty, .string ByteArray.empty, .string ByteArray.empty, .int .i64 0, .int .i64 0, .int .i64 0, .string ByteArray.empty, .string ByteArray.empty, .string ByteArray.empty, .int .i64 0, .int .i64 0, .int .i64 0, .string ByteArray.empty, .string ByteArray.empty, .string ByteArray.empty, .slice none 0 0]], []⟩ 8 (by kernel_rfl) (by kernel_rfl) (by kernel_rfl) (by kernel_rfl)) ?_
  intro W base args ds gs before hval0 hW hcnd _
  have hval : ∀ (j : Nat) t v, Tryz.f3.params[j]? = some t → args[j]? = some v → Value.okWide Tryz.prog W .any base t v := hval0
  have hW' := hW
  obtain ⟨p, q, hA0, hV, rfl, hfz, hnd⟩ := hW
  have hA : DataW.TrodAll enc Tryz.prog W 0 (fun _ => true) true Tryz.f3.params.toList args.toList ds p := hA0
  rw [Tryz.params3] at hA hval
  obtain ⟨v0, vs0, d0, ds0, p0, q0, hargs, rfl, rfl, h0, r0⟩ := trodAll_cons hA
  obtain ⟨rfl, rfl, rfl⟩ := trodAll_nil r0
  obtain rfl : args = #[v0] := by cases args; simp_all
  obtain ⟨rfl, rfl⟩ := trodVars_none hV
  have k0 := h0
  have lt0 : ∀ x ∈ p0, x.block < W.heap.size := by obtain ⟨m, hm⟩ := k0; exact DataW.trod_lt m _ _ _ hm
  obtain ⟨g0, a0, len0, cap0, e0, o0, s0, m0⟩ := V.read_policy (hval 0 28 v0 rfl rfl) h0
  subst e0
  clear hA0 hval0
  refine (walk g0 a0 len0 cap0 W o0 s0 m0).mono fun e W' ⟨he, bel⟩ => ?_
  subst he
  exact ⟨_, rfl, _, _, _, [], _, [], hW', trodAll_mk1 (shut_bool Tryz.underlying4 _), (trodAll_cons_mk (Below.trod laidOut (by kernel_rfl) (of_decide_eq_true (by kernel_rfl)) k0 bel lt0) trodAll_mk0), rfl, bel.frame _, fun h => by cases h⟩

theorem over : Rows.fnExactInFragmentRow.holds Tryz.pinned (OpenSpec.ofChange Rows.fnExactInFragmentSpec) :=
  OpenClaim.holds_of_wide 3 Tryz.f3 rfl rfl rfl rfl rfl rfl rfl ⟨rfl, rfl, rfl, rfl, rfl⟩ rfl rfl rfl rfl rfl (by kernel_rfl) Tryz.func3 (by kernel_rfl)
    (of_decide_eq_true (by kernel_rfl)) (by unfold Func.isWrapper; rw [if_neg (by decide +kernel)]; exact ⟨rfl, rfl⟩)
    (fun os started H enc _ => lifted os started H enc)
end Go.Proofs.YteaidfighimoiaaGreat.fnExactInFragment
namespace Go.Proofs.YteaidfighimoiaaGreat
theorem fnExactInFragment_holds : Rows.FnExactInFragmentSaid := fnExactInFragment.over
end Go.Proofs.YteaidfighimoiaaGreat
