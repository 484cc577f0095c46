/- The row and the card of laws.FnExactPartText: its walk, then the row's step. -/
import Derived.Test.YtdhpfhpegaekpaaDoorRows
import Derived.Test.YtdhpfhpegaekpaaDoorCards
import Derived.Test.YtdhpfhpegaekpaaDoorTie
import Derived.Test.YtdhpfhpegaekpaaDoorZLd
import Derived.Test.YtdhpfhpegaekpaaDoorEMk
import Derived.Test.YtdhpfhpegaekpaaDoorEMm
import Derived.WalkKit
import Derived.ProofKit
import Derived.OpenShut
import Derived.ShutString
import Derived.ChangeOld
import Derived.Below
import Derived.Lib.SmallJoins
import Derived.LaidMore
import Derived.ChangeVars
import Derived.SevenTiedAt
import Derived.Stop.Joined
namespace Go.Proofs.YtdhpfhpegaekpaaDoor.fnExactPartText
open Go.ChangeShapes Go.WideShapes Go.ChangeAt Go.RowKit Go.Joins
open Go.ChangeMaps (open_string shut_string)
set_option linter.unusedVariables false

open V in
set_option maxRecDepth 40000 in
set_option maxHeartbeats 8000000 in
theorem walk (h : V.Hd) (xs : List V.ElemT) (a : Int) (w : World) (hs : V.SqElem w 0 h xs) (hn : ∀ q ∈ xs, V.ElemN q) (hl : xs.length ≤ maxLen) (hM : V.MarksAt w) :
    Calls Tryd.prog 4 #[.slice h.a h.len h.cap, .int .i64 a] w fun r w' => r = .returned (.bool true) ∧ Below w.heap.size w w' := by
  have qz := hide (fun q w h0 h1 hs => V.szElemS_n h xs q w h0 h1 hn hl hs)
  have qt := hide (fun w g hs => V.toElemS_c h xs w g hs)
  have qs := hide (fun h w hs => V.sPartText_n h xs a w hn hl hs)
  have qi := hide (fun h w hs hc hm => V.iPartText_n h xs a w hn hl hs hc hm)
  have qe := hide (fun h g w h1 h2 => V.eqElemS_n h g xs w hl hn h1 h2)
  have HS := hide hs
  have HM := hide hM
  have B := hide (Below.refl w.heap.size w)
  generalize V.partTx xs a = T0 at qs qi
  obtain ⟨T, hT⟩ : ∃ T : ByteArray, ⟨T0.toArray⟩ = T := ⟨_, rfl⟩
  rw [hT] at qs qi
  clear hs hn hl hM hT
  go_enter Tryd.func4, Tryd.ntmps4
  go_wp2_with fail
  refine (unhide qz _ _ (by omega) (by omega) ((unhide HS).keep (unhide B))).mono ?_
  rintro r w1 ⟨⟨m, hm1, hm2, hm3, rfl⟩, hb1⟩
  replace B := hide (bTr (unhide B) hb1)
  clear hb1 qz
  by_cases hlt : m < 0
  · go_wp2_with fail
    go_ret
    exact ⟨rfl, unhide B⟩
  have QT := hide (fun w hs => unhide qt w (hm3 (by omega)) hs)
  clear qt hm3
  go_wp2_with fail
  refine (unhide QT _ ((unhide HS).keep (unhide B))).mono ?_
  rintro r w2 ⟨⟨h2, rfl, _, m2⟩, hb2⟩
  have hs2 := hide (unhide qs h2 w2 (m2.lo (Nat.zero_le _)))
  replace B := hide (bTr (unhide B) hb2)
  clear hb2 m2
  go_wp2_with fail
  refine (unhide hs2).mono ?_
  rintro r w3 ⟨rfl, hb3⟩
  replace B := hide (bTr (unhide B) hb3)
  clear hb3 hs2
  go_wp2_with fail
  refine (unhide QT _ ((unhide HS).keep (unhide B))).mono ?_
  rintro r w4 ⟨⟨h4, rfl, hc4, m4⟩, hb4⟩
  have M4 := hide (m4.lo (Nat.zero_le _))
  have C4 := hide hc4
  replace B := hide (bTr (unhide B) hb4)
  clear hb4 m4 hc4
  go_wp2_with fail
  refine (unhide qi h4 _ (unhide M4) (unhide C4) ((unhide HM).keep (unhide B))).mono ?_
  rintro r w5 ⟨rfl, hb5⟩
  replace M4 := hide ((unhide M4).keep hb5)
  replace B := hide (bTr (unhide B) hb5)
  clear hb5
  have he : (T.toList != T.toList) = false := by simp
  go_wp2_with fail
  refine (unhide QT _ ((unhide HS).keep (unhide B))).mono ?_
  rintro r w6 ⟨⟨h6, rfl, _, m6⟩, hb6⟩
  have M6 := hide (m6.lo (Nat.zero_le _))
  replace M4 := hide ((unhide M4).keep hb6)
  replace B := hide (bTr (unhide B) hb6)
  clear hb6 m6
  go_wp2_with fail
  refine (unhide qe h4 h6 _ (unhide M4) (unhide M6)).mono ?_
  rintro r w7 ⟨rfl, hb7⟩
  replace B := hide (bTr (unhide B) hb7)
  clear hb7
  go_wp2_with fail
  go_ret
  exact ⟨rfl, unhide B⟩

open V in
set_option maxRecDepth 100000 in
theorem lifted (os : Os) (started : os.Started) (H : Type) (enc : TypeId × Value → H) :
    ReturnsInHanded {} Tryd.checked os 4 .any (fun w args => (Rows.fnExactPartTextSpec.pre enc Tryd.prog Tryd.f4 [] false w args ∧ laidMetH Tryd.prog V.laidE w) ∧ sizedMet enc Tryd.prog Tryd.f4 (OpenSpec.ofChange Rows.fnExactPartTextSpec) false w args)
      (Rows.fnExactPartTextSpec.post enc Tryd.prog Tryd.f4 false true false false) := by
  refine returnsInHanded_of_change_and (C := Tryd.checked) (X := fun w _ => laidMetH Tryd.prog V.laidE w) (fun _ _ _ hh h => h.of_heap hh) V.own started (by kernel_rfl) Tryd.func4
    (ChangeSpec.witness_shaped (enc := enc) (C := Tryd.checked) (os := os) (X := fun w _ => laidMetH Tryd.prog V.laidE w) false (World.laidAll Tryd.prog os V.laidE) #[.slice none 0 0, .int .i64 0] 8 (World.laidAll_os _ _ _) (World.shaped_of_ZipB (by kernel_rfl) (by kernel_rfl)) (by kernel_rfl) (by kernel_rfl) (by kernel_rfl) (V.all_met os _)) ?_
  intro W base args ds gs before hval0 hW _ _ hL _
  have hval : ∀ (j : Nat) t v, Tryd.f4.params[j]? = some t → args[j]? = some v → Value.okWide Tryd.prog W .any base t v := hval0
  have hW' := hW
  obtain ⟨p, q, hA0, hV0, rfl, hfz, hnd⟩ := hW
  have hA : DataW.TrodAll enc Tryd.prog W 0 (fun _ => true) true Tryd.f4.params.toList args.toList ds p := hA0
  have hV : DataW.TrodVars enc Tryd.prog W (fun _ => true) ["loop.example/g00036/impl.docMarks"] gs q := hV0
  rw [Tryd.params4] at hA hval
  obtain ⟨v0, vs0, d0, ds0, p0, q0, hargs, rfl, rfl, h0, r0⟩ := trodAll_cons hA
  obtain ⟨v1, vs1, d1, ds1, p1, q1, rfl, rfl, rfl, h1, r1⟩ := trodAll_cons r0
  obtain ⟨rfl, rfl, rfl⟩ := trodAll_nil r1
  obtain rfl : args = #[v0, v1] := by cases args; simp_all
  obtain ⟨g, t, cs, fuel, d, p', rfl, hg, ht, hvar, hd, rfl⟩ := trodVars_one hV
  obtain rfl := Option.some.inj (V.gKw.symm.trans hg)
  obtain rfl := Option.some.inj (V.tKw.symm.trans ht)
  obtain rfl : cs = V.marksA := Option.some.inj (hvar.symm.trans (V.cells_of_laid hL))
  obtain ⟨rfl, rfl⟩ := DataW.Trod.unique (v := .agg V.marksA) ⟨fuel, hd⟩ ⟨4, V.reads_kw enc W _⟩
  have k0 := h0
  have lt0 : ∀ x ∈ p0, x.block < W.heap.size := by obtain ⟨m, hm⟩ := k0; exact DataW.trod_lt m _ _ _ hm
  obtain ⟨g0, l0, e0, s0, o0, m0⟩ := V.cames_Elem (hval 0 22 v0 rfl rfl) h0
  subst e0
  obtain ⟨a1, rfl, rfl, rfl, w1⟩ := open_int Tryd.underlying3 (hval 1 3 v1 rfl rfl) h1
  clear hA0 hV0 hval0
  have hM := V.marks_of (V.cells_of_laid hL)
  refine (walk g0 l0 a1 W s0 o0 m0 hM).mono fun e W' ⟨he, bel⟩ => ?_
  subst he
  exact ⟨_, rfl, _, _, _, [], _, _, hW', trodAll_mk1 (shut_bool Tryd.underlying4 _), (trodAll_cons_mk (Below.trod V.laidOut (by kernel_rfl) (of_decide_eq_true (by kernel_rfl)) k0 bel lt0) (trodAll_cons_mk (shut_int Tryd.underlying3 w1) trodAll_mk0)), V.vars_kept enc (V.cells_of_laid hL) hM bel, bel.frame _, fun h => by cases h⟩

theorem row : Rows.FnExactPartTextSaid :=
  OpenClaim.holds_of_wide 4 Tryd.f4 rfl rfl rfl rfl rfl rfl rfl ⟨rfl, rfl, rfl, rfl, rfl⟩ rfl rfl rfl rfl rfl (by kernel_rfl) Tryd.func4 (by kernel_rfl)
    (of_decide_eq_true (by kernel_rfl)) (by unfold Func.isWrapper; first | (rw [if_pos (by decide +kernel)]; kernel_rfl) | (rw [if_neg (by decide +kernel)]; exact ⟨rfl, rfl⟩))
    (fun os started H enc _ => lifted os started H enc)
theorem card : Rows.FnExactPartTextCardSaid :=
  Claim7.holds_tied_plain_at .later [] [.data, .data, .pinned] true (true, "ffed82e6712ba60c6304d66c4ad867f00c9e6aca114d1a8ec90f46cddc912d09") false
    row (fun _ h => by cases h) (by kernel_rfl) (fun _ h => by cases h) fnExactPartText_row_tie rfl ⟨rfl, rfl⟩ (by kernel_rfl) rfl
    (fun f fn hf hfn => by
      obtain rfl : f = 4 := Option.some.inj ((show Tryd.prog.funcNamed "loop.example/g00036/laws.FnExactPartText" = some 4 by kernel_rfl).symm.trans hf) |>.symm
      obtain rfl : fn = Tryd.f4 := (Option.some.inj (Tryd.func4.symm.trans hfn)).symm
      exact ⟨by kernel_rfl, fun j t ht => by
        rw [Tryd.params4] at ht
        have hm : t ∈ [22, 3] := by simpa using Array.mem_of_getElem? ht
        have hall : ([22, 3].all fun u => !Tryd.prog.wantsStandIn u) = true := by kernel_rfl
        exact (show Tryd.prog.wantsStandIn t = false by simpa using List.all_eq_true.1 hall t hm)⟩)
    (by kernel_rfl)
end Go.Proofs.YtdhpfhpegaekpaaDoor.fnExactPartText
namespace Go.Proofs.YtdhpfhpegaekpaaDoor
theorem fnExactPartText_holds : Rows.FnExactPartTextCardSaid := fnExactPartText.card
end Go.Proofs.YtdhpfhpegaekpaaDoor
