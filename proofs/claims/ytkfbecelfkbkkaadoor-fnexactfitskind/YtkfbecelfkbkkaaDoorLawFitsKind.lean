/- The row and the card of laws.FnExactFitsKind: its walk, then the row's step. -/
import Derived.Test.YtkfbecelfkbkkaaDoorRows
import Derived.Test.YtkfbecelfkbkkaaDoorCards
import Derived.Test.YtkfbecelfkbkkaaDoorTie
import Derived.Test.YtkfbecelfkbkkaaDoorZFl
import Derived.Test.YtkfbecelfkbkkaaDoorZLd
import Derived.WalkKit
import Derived.ProofKit
import Derived.OpenShut
import Derived.ShutString
import Derived.ChangeOld
import Derived.Below
import Derived.Lib.SmallJoins
import Derived.LaidMore
import Derived.ChangeVars
import Derived.SevenTiedAt
import Derived.Stop.Joined
namespace Go.Proofs.YtkfbecelfkbkkaaDoor.fnExactFitsKind
open Go.ChangeShapes Go.WideShapes Go.ChangeAt Go.RowKit Go.Joins
open Go.ChangeMaps (open_string shut_string)
set_option linter.unusedVariables false

open V in
set_option maxRecDepth 40000 in
set_option maxHeartbeats 8000000 in
theorem walk (e : V.ValueE) (kind : ByteArray) (w : World) (hn : V.ValueN e.t) (hm : V.ValueM w 0 e) (hk : kind.size ≤ maxLen) (hT : V.Words w) :
    Calls Tryd.prog 3 #[.agg #[.int .i64 e.t.k, .int .i64 e.t.a.x, .int .i64 e.t.a.n, .string e.t.a.t, .string e.t.a.y, .slice e.h2.a e.h2.len e.h2.cap, .slice e.h3.a e.h3.len e.h3.cap], .string kind] w fun r w' => r = .returned (.bool true) ∧ Below w.heap.size w w' := by
  have qz := hide (fun q w h0 h1 hm => V.szValue_n e q w h0 h1 hn hm)
  have qt := hide (fun w hs hm => V.toValue_n e w hs hm)
  have HN := hide hn
  have HM := hide hm
  have QV := hide (V.RowIs.new w #[.int .i64 e.t.k, .int .i64 e.t.a.x, .int .i64 e.t.a.n, .string e.t.a.t, .string e.t.a.y, .slice e.h2.a e.h2.len e.h2.cap, .slice e.h3.a e.h3.len e.h3.cap] 27)
  have B := hide (bAl (Below.refl w.heap.size w) (.cells #[.int .i64 e.t.k, .int .i64 e.t.a.x, .int .i64 e.t.a.n, .string e.t.a.t, .string e.t.a.y, .slice e.h2.a e.h2.len e.h2.cap, .slice e.h3.a e.h3.len e.h3.cap] 27))
  have LK := hide hk
  have HT := hide hT
  unfold maxLen at hk
  clear hn hm hT
  by_cases hbig : (1048576 : Int) < kind.size
  · have d : decide ((1048576 : Int) < kind.size) = true := decide_eq_true hbig
    clear QV qz qt
    go_enter Tryd.func3, Tryd.ntmps3
    go_wp2_with fail
    go_ret
    exact ⟨rfl, unhide B⟩
  have d : decide ((1048576 : Int) < kind.size) = false := by simp; omega
  go_enter Tryd.func3, Tryd.ntmps3
  go_upto_region 4 with fail
  go_step
  refine wpList_load_row rfl 27 _ rfl _ rfl 27 _ (0, 0) _ (unhide QV) Tryd.underlying27 rfl (by kernel_rfl) ?_
  go_wp2_with fail
  refine (unhide qz _ _ (by omega) (by omega) ((unhide HM).keep (unhide B))).mono ?_
  rintro r w1 ⟨⟨m, hm1, hm2, hm3, rfl⟩, hb1⟩
  replace QV := hide ((unhide QV).keep hb1)
  replace B := hide (bTr (unhide B) hb1)
  clear hb1 qz
  by_cases hlt : m < 0
  · go_wp2_with fail
    go_ret
    exact ⟨rfl, unhide B⟩
  have QT := hide (fun w hm => unhide qt w (hm3 (by omega)) hm)
  clear qt hm3
  go_upto_region 7 with fail
  go_step
  refine wpList_load_row rfl 27 _ rfl _ rfl 27 _ (0, 0) _ (unhide QV) Tryd.underlying27 rfl (by kernel_rfl) ?_
  go_wp2_with fail
  refine (unhide QT _ ((unhide HM).keep (unhide B))).mono ?_
  rintro r w2 ⟨⟨e2, t2, rfl, m2⟩, hb2⟩
  have hs2 : Hid (Calls Tryd.prog 5 #[.agg #[.int .i64 e2.t.k, .int .i64 e2.t.a.x, .int .i64 e2.t.a.n, .string e2.t.a.t, .string e2.t.a.y, .slice e2.h2.a e2.h2.len e2.h2.cap, .slice e2.h3.a e2.h3.len e2.h3.cap], .string kind] w2 fun r w' => V.RetB r (V.Fits e.t kind) ∧ Below w2.heap.size w2 w') := hide ((V.sFitsKind_n e2 kind w2 (by rw [t2]; exact unhide HN) (m2.lo (Nat.zero_le _)) (unhide LK)).mono fun _ _ h => by rw [t2] at h; exact h)
  replace QV := hide ((unhide QV).keep hb2)
  replace B := hide (bTr (unhide B) hb2)
  clear hb2 m2 t2
  go_wp2_with fail
  refine (unhide hs2).mono ?_
  rintro r w3 ⟨⟨g, rfl, hg⟩, hb3⟩
  have HG := hide hg
  replace QV := hide ((unhide QV).keep hb3)
  replace B := hide (bTr (unhide B) hb3)
  clear hb3 hs2 hg
  go_upto_region 8 with fail
  go_step
  refine wpList_load_row rfl 27 _ rfl _ rfl 27 _ (0, 0) _ (unhide QV) Tryd.underlying27 rfl (by kernel_rfl) ?_
  go_wp2_with fail
  refine (unhide QT _ ((unhide HM).keep (unhide B))).mono ?_
  rintro r w4 ⟨⟨e4, t4, rfl, m4⟩, hb4⟩
  replace QV := hide ((unhide QV).keep hb4)
  replace B := hide (bTr (unhide B) hb4)
  clear hb4
  obtain ⟨W5, hW5⟩ : ∃ W, W = (w4.alloc (.cells #[.int .i64 0, .int .i64 0, .int .i64 0, .string ⟨#[]⟩, .string ⟨#[]⟩, .slice none 0 0, .slice none 0 0] 33)).setRow w4.heap.size #[.int .i64 e4.t.k, .int .i64 e4.t.a.x, .int .i64 e4.t.a.n, .string e4.t.a.t, .string e4.t.a.y, .slice e4.h2.a e4.h2.len e4.h2.cap, .slice e4.h3.a e4.h3.len e4.h3.cap] := ⟨_, rfl⟩
  have HW5 := hide hW5.symm
  have b45 : Below w4.heap.size w4 W5 := by rw [hW5]; exact V.bRow (bAl (Below.refl _ _) _) (Nat.le_refl _) _
  have QX := hide (show V.RowIs W5 w4.heap.size #[.int .i64 e4.t.k, .int .i64 e4.t.a.x, .int .i64 e4.t.a.n, .string e4.t.a.t, .string e4.t.a.y, .slice e4.h2.a e4.h2.len e4.h2.cap, .slice e4.h3.a e4.h3.len e4.h3.cap] 33 by rw [hW5]; exact setRow_heap _ _ _ _ _ _ (V.RowIs.new w4 #[.int .i64 0, .int .i64 0, .int .i64 0, .string ⟨#[]⟩, .string ⟨#[]⟩, .slice none 0 0, .slice none 0 0] 33))
  have S4 : Hid (V.ValueM W5 0 e4) := hide ((m4.lo (Nat.zero_le _)).keep b45)
  have T4 := hide t4
  have hi : Hid (Calls Tryd.prog 7 #[.agg #[.int .i64 e4.t.k, .int .i64 e4.t.a.x, .int .i64 e4.t.a.n, .string e4.t.a.t, .string e4.t.a.y, .slice e4.h2.a e4.h2.len e4.h2.cap, .slice e4.h3.a e4.h3.len e4.h3.cap], .string kind] W5 fun r w' => V.RetB r (V.Fits e.t kind) ∧ Below W5.heap.size W5 w') := hide ((V.iFitsKind_n e4 kind W5 (by rw [t4]; exact unhide HN) (unhide S4) (unhide LK) ((unhide HT).keep (bTr (unhide B) b45))).mono fun _ _ h => by rw [t4] at h; exact h)
  replace QV := hide ((unhide QV).keep b45)
  replace B := hide (bTr (unhide B) b45)
  clear hW5 b45 m4 t4
  iterate 5 (try (first | go_values | go_skip | go_guarded | go_step | go_upon | go_simp))
  refine wpList_store_row rfl 33 _ _ rfl w4.heap.size #[.int .i64 e4.t.k, .int .i64 e4.t.a.x, .int .i64 e4.t.a.n, .string e4.t.a.t, .string e4.t.a.y, .slice e4.h2.a e4.h2.len e4.h2.cap, .slice e4.h3.a e4.h3.len e4.h3.cap] rfl rfl 33 _ (V.RowIs.new w4 #[.int .i64 0, .int .i64 0, .int .i64 0, .string ⟨#[]⟩, .string ⟨#[]⟩, .slice none 0 0, .slice none 0 0] 33) (by kernel_rfl) rfl (by simp [Value.oneCell']) ?_
  rw [unhide HW5]
  clear HW5
  go_upto_region 9 with fail
  go_step
  refine wpList_load_row rfl 33 _ rfl _ rfl 33 _ (0, 0) _ (unhide QX) Tryd.underlying33 rfl (by kernel_rfl) ?_
  go_wp2_with fail
  refine (unhide hi).mono ?_
  rintro r w6 ⟨⟨g', rfl, hg'⟩, hb6⟩
  obtain rfl : g' = g := by
    have h := unhide HG
    cases g <;> cases g' <;> simp_all
  replace QV := hide ((unhide QV).keep hb6)
  replace QX := hide ((unhide QX).keep hb6)
  replace S4 := hide ((unhide S4).keep hb6)
  replace B := hide (bTr (unhide B) hb6)
  clear hb6 hi hg' HG
  have he : (g' != g') = false := by simp
  go_upto_region 12 with fail
  refine wp_region_held_drew (S := fun w' => V.RowIs w' w4.heap.size #[.int .i64 e4.t.k, .int .i64 e4.t.a.x, .int .i64 e4.t.a.n, .string e4.t.a.t, .string e4.t.a.y, .slice e4.h2.a e4.h2.len e4.h2.cap, .slice e4.h3.a e4.h3.len e4.h3.cap] 33 ∧ V.RowIs w' w.heap.size #[.int .i64 e.t.k, .int .i64 e.t.a.x, .int .i64 e.t.a.n, .string e.t.a.t, .string e.t.a.y, .slice e.h2.a e.h2.len e.h2.cap, .slice e.h3.a e.h3.len e.h3.cap] 27) (by kernel_rfl) ⟨unhide QX, unhide QV⟩ (fun hHeld => ?_)
  refine wpAnyH_take (i := 0) (v := .agg #[.int .i64 e4.t.k, .int .i64 e4.t.a.x, .int .i64 e4.t.a.n, .string e4.t.a.t, .string e4.t.a.y, .slice e4.h2.a e4.h2.len e4.h2.cap, .slice e4.h3.a e4.h3.len e4.h3.cap]) rfl (by kernel_rfl) (by kernel_rfl) (by kernel_rfl) (fun _ _ _ h => h) (V.yields_row (by rfl) 33 _ rfl w4.heap.size rfl 33 _ _ (fun w h => h.1) Tryd.underlying33 rfl (by kernel_rfl)) (by assumption) ?_
  simp only [Act.put, List.setIfInBounds_toArray]
  refine wpAnyH_take (i := 1) (v := .agg #[.int .i64 e.t.k, .int .i64 e.t.a.x, .int .i64 e.t.a.n, .string e.t.a.t, .string e.t.a.y, .slice e.h2.a e.h2.len e.h2.cap, .slice e.h3.a e.h3.len e.h3.cap]) rfl (by kernel_rfl) (by kernel_rfl) (by kernel_rfl) (fun _ _ _ h => h) (V.yields_row (by rfl) 27 _ rfl w.heap.size rfl 27 _ _ (fun w h => h.2) Tryd.underlying27 rfl (by kernel_rfl)) (by assumption) ?_
  simp only [Act.put]
  refine wpAnyH_ready (rs := [2]) (by kernel_rfl) (by simp) ?_
  refine AllReadyH.cons (o := { dst := some 31, op := Op.call { callee := Callee.value (Operand.func 6), args := #[Operand.tmp 30], argTypes := #[27] }, type := 33, pos := "exact.go:9183", after := #[{ on := 1, ground := Ground.data }], guard := none }) rfl (fun K hK => ?_) AllReadyH.nil
  clear hHeld
  refine V.step_call1 _ (by rfl) 6 _ _ (by rfl) (.agg #[.int .i64 e.t.k, .int .i64 e.t.a.x, .int .i64 e.t.a.n, .string e.t.a.t, .string e.t.a.y, .slice e.h2.a e.h2.len e.h2.cap, .slice e.h3.a e.h3.len e.h3.cap]) (by rfl) (V.entY_of Tryd.func6 (by kernel_rfl) (by kernel_rfl)) (unhide QT _ ((unhide HM).keep (unhide B).drew)) ?_
  rintro r w7 ⟨⟨e7, t7, rfl, m7⟩, hb7⟩
  replace hb7 := hide (V.undrew hb7)
  replace m7 := hide m7
  refine ⟨_, rfl, ?_⟩
  refine hK.out _ _ ⟨(unhide QX).keep (unhide hb7), (unhide QV).keep (unhide hb7)⟩ (fun hHeld2 => ?_)
  clear hK hHeld2
  simp only [Act.put]
  refine wpAnyH_ready (rs := [3]) (by kernel_rfl) (by simp) ?_
  refine AllReadyH.cons (o := { dst := some 32, op := Op.call { callee := Callee.value (Operand.func 8), args := #[Operand.tmp 29, Operand.tmp 31], argTypes := #[33, 33] }, type := 4, pos := "exact.go:9183", after := #[{ on := 0, ground := Ground.data }, { on := 2, ground := Ground.data }, { on := 2, ground := Ground.chain }], guard := none }) rfl (fun K hK => ?_) AllReadyH.nil
  refine V.step_call2 _ (by rfl) 8 _ _ _ (by rfl) (.agg #[.int .i64 e4.t.k, .int .i64 e4.t.a.x, .int .i64 e4.t.a.n, .string e4.t.a.t, .string e4.t.a.y, .slice e4.h2.a e4.h2.len e4.h2.cap, .slice e4.h3.a e4.h3.len e4.h3.cap]) (.agg #[.int .i64 e7.t.k, .int .i64 e7.t.a.x, .int .i64 e7.t.a.n, .string e7.t.a.t, .string e7.t.a.y, .slice e7.h2.a e7.h2.len e7.h2.cap, .slice e7.h3.a e7.h3.len e7.h3.cap]) (by rfl) (by rfl) (V.entY_of Tryd.func8 (by kernel_rfl) (by kernel_rfl)) (V.eqValue_n e4 e7 _ (by rw [t7, unhide T4]) (by rw [unhide T4]; exact unhide HN) ((unhide S4).keep (unhide hb7)) ((unhide m7).lo (Nat.zero_le _))) ?_
  rintro r w8 ⟨rfl, hb8⟩
  replace hb8 := hide hb8
  refine ⟨_, rfl, ?_⟩
  refine hK.out _ _ ⟨((unhide QX).keep (unhide hb7)).keep (unhide hb8), ((unhide QV).keep (unhide hb7)).keep (unhide hb8)⟩ (fun hHeld3 => ?_)
  clear hK hHeld3
  simp only [Act.put]
  refine wpAnyH_ready (rs := [4]) (by kernel_rfl) (by simp) ?_
  refine AllReadyH.cons (o := { dst := some 33, op := Op.unOp UnOp.not 4 (Operand.tmp 32), type := 4, pos := "exact.go:9183", after := #[{ on := 3, ground := Ground.data }], guard := none }) rfl (fun K hK => ?_) AllReadyH.nil
  rw [if_pos (by rfl)]
  have HK := hide hK
  clear hK
  go_wp2_with fail
  refine (unhide HK).out _ _ ⟨((unhide QX).keep (unhide hb7)).keep (unhide hb8), ((unhide QV).keep (unhide hb7)).keep (unhide hb8)⟩ (fun hHeld4 => ?_)
  clear HK
  refine wpAnyH_done (by kernel_rfl) ?_ _
  clear hHeld4
  go_wp2_with fail
  go_ret
  exact ⟨rfl, bTr (bTr (unhide B) (unhide hb7)) (unhide hb8)⟩

open V in
set_option maxRecDepth 100000 in
theorem lifted (os : Os) (started : os.Started) (H : Type) (enc : TypeId × Value → H) :
    ReturnsInHanded {} Tryd.checked os 3 .any (fun w args => (Rows.fnExactFitsKindSpec.pre enc Tryd.prog Tryd.f3 [] false w args ∧ laidMetH Tryd.prog [("loop.example/g00036/impl.kindWords", Rows.laid_loop_example_g00036_impl_kindWords)] w) ∧ sizedMet enc Tryd.prog Tryd.f3 (OpenSpec.ofChange Rows.fnExactFitsKindSpec) false w args)
      (Rows.fnExactFitsKindSpec.post enc Tryd.prog Tryd.f3 false true false false) := by
  refine returnsInHanded_of_change_and (C := Tryd.checked) (X := fun w _ => laidMetH Tryd.prog [("loop.example/g00036/impl.kindWords", Rows.laid_loop_example_g00036_impl_kindWords)] w) (fun _ _ _ hh h => h.of_heap hh) V.own started (by kernel_rfl) Tryd.func3
    (ChangeSpec.witness_shaped (enc := enc) (C := Tryd.checked) (os := os) (X := fun w _ => laidMetH Tryd.prog [("loop.example/g00036/impl.kindWords", Rows.laid_loop_example_g00036_impl_kindWords)] w) false (World.doorLaid Tryd.prog 400 os) #[.agg #[.int .i64 0, .int .i64 0, .int .i64 0, .string ByteArray.empty, .string ByteArray.empty, .slice none 0 0, .slice none 0 0], .string ByteArray.empty] 8 rfl (World.shaped_of_RefB (by kernel_rfl) (by kernel_rfl)) (by kernel_rfl) (by kernel_rfl) (by kernel_rfl) (V.door_met os _)) ?_
  intro W base args ds gs before hval0 hW _ _ hL _
  have hval : ∀ (j : Nat) t v, Tryd.f3.params[j]? = some t → args[j]? = some v → Value.okWide Tryd.prog W .any base t v := hval0
  have hW' := hW
  obtain ⟨p, q, hA0, hV0, rfl, hfz, hnd⟩ := hW
  have hA : DataW.TrodAll enc Tryd.prog W 0 (fun _ => true) true Tryd.f3.params.toList args.toList ds p := hA0
  have hV : DataW.TrodVars enc Tryd.prog W (fun _ => true) ["loop.example/g00036/impl.kindWords"] gs q := hV0
  rw [Tryd.params3] at hA hval
  obtain ⟨v0, vs0, d0, ds0, p0, q0, hargs, rfl, rfl, h0, r0⟩ := trodAll_cons hA
  obtain ⟨v1, vs1, d1, ds1, p1, q1, rfl, rfl, rfl, h1, r1⟩ := trodAll_cons r0
  obtain ⟨rfl, rfl, rfl⟩ := trodAll_nil r1
  obtain rfl : args = #[v0, v1] := by cases args; simp_all
  obtain ⟨g, t, cs, fuel, d, p', rfl, hg, ht, hvar, hd, rfl⟩ := trodVars_one hV
  obtain rfl := Option.some.inj (V.gKw.symm.trans hg)
  obtain rfl := Option.some.inj (V.tKw.symm.trans ht)
  obtain rfl : cs = V.cellsK := Option.some.inj (hvar.symm.trans (V.cells_of_laid hL))
  obtain ⟨rfl, rfl⟩ := DataW.Trod.unique (v := .agg V.cellsK) ⟨fuel, hd⟩ ⟨3, V.reads_kw enc W _⟩
  have k0 := h0
  have lt0 : ∀ x ∈ p0, x.block < W.heap.size := by obtain ⟨m, hm⟩ := k0; exact DataW.trod_lt m _ _ _ hm
  obtain ⟨g0, e0, o0, s0⟩ := V.came_Value (hval 0 27 v0 rfl rfl) h0
  subst e0
  obtain ⟨a1, rfl, rfl, rfl, w1⟩ := open_string Tryd.underlying9 (hval 1 9 v1 rfl rfl) h1
  clear hA0 hV0 hval0
  have hM := V.words_of (V.cells_of_laid hL)
  refine (walk g0 a1 W o0 s0 w1 hM).mono fun e W' ⟨he, bel⟩ => ?_
  subst he
  exact ⟨_, rfl, _, _, _, [], _, _, hW', trodAll_mk1 (shut_bool Tryd.underlying4 _), (trodAll_cons_mk (Below.trod V.laidOut (by kernel_rfl) (of_decide_eq_true (by kernel_rfl)) k0 bel lt0) (trodAll_cons_mk (shut_string Tryd.underlying9 w1) trodAll_mk0)), V.vars_kept enc (V.cells_of_laid hL) hM.z bel, bel.frame _, fun h => by cases h⟩

theorem row : Rows.FnExactFitsKindSaid :=
  OpenClaim.holds_of_wide 3 Tryd.f3 rfl rfl rfl rfl rfl rfl rfl ⟨rfl, rfl, rfl, rfl, rfl⟩ rfl rfl rfl rfl rfl (by kernel_rfl) Tryd.func3 (by kernel_rfl)
    (of_decide_eq_true (by kernel_rfl)) (by unfold Func.isWrapper; first | (rw [if_pos (by decide +kernel)]; kernel_rfl) | (rw [if_neg (by decide +kernel)]; exact ⟨rfl, rfl⟩))
    (fun os started H enc _ => lifted os started H enc)
theorem card : Rows.FnExactFitsKindCardSaid :=
  Claim7.holds_tied_plain_at .later [] [.data] true (true, "930a417a8c659a0b786a7748d6db2ed801effad752d5bbac3d8634d1e43fc278") false
    row (fun _ h => by cases h) (by kernel_rfl) (fun _ h => by cases h) fnExactFitsKind_row_tie rfl ⟨rfl, rfl⟩ (by kernel_rfl) rfl
    (fun f fn hf hfn => by
      obtain rfl : f = 3 := Option.some.inj ((show Tryd.prog.funcNamed "loop.example/g00036/laws.FnExactFitsKind" = some 3 by kernel_rfl).symm.trans hf) |>.symm
      obtain rfl : fn = Tryd.f3 := (Option.some.inj (Tryd.func3.symm.trans hfn)).symm
      exact ⟨by kernel_rfl, fun j t ht => by
        rw [Tryd.params3] at ht
        have hm : t ∈ [27, 9] := by simpa using Array.mem_of_getElem? ht
        have hall : ([27, 9].all fun u => !Tryd.prog.wantsStandIn u) = true := by kernel_rfl
        exact (show Tryd.prog.wantsStandIn t = false by simpa using List.all_eq_true.1 hall t hm)⟩)
    (by kernel_rfl)
end Go.Proofs.YtkfbecelfkbkkaaDoor.fnExactFitsKind
namespace Go.Proofs.YtkfbecelfkbkkaaDoor
theorem fnExactFitsKind_holds : Rows.FnExactFitsKindCardSaid := fnExactFitsKind.card
end Go.Proofs.YtkfbecelfkbkkaaDoor
