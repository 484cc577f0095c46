/- The row of laws.FnExactGoodDoc: its walk, then the row's step. -/
import Derived.Test.YtdggpfaefnaefaaRows
import Derived.Test.YtdggpfaefnaefaaELv
import Derived.Test.YtdggpfaefnaefaaZLd
import Derived.WalkKit
import Derived.ProofKit
import Derived.OpenShut
import Derived.ShutString
import Derived.ChangeOld
import Derived.Below
import Derived.Lib.SmallJoins
namespace Go.Proofs.Ytdggpfaefnaefaa.fnExactGoodDoc
open Go.ChangeShapes Go.WideShapes Go.ChangeAt Go.RowKit Go.Joins
open Go.ChangeMaps (open_string shut_string)
set_option linter.unusedVariables false

theorem own : ownKnob Try.prog.godebug = none := by kernel_rfl
theorem laidOut : laidOutB Try.prog = true := by kernel_rfl


open V in
set_option maxRecDepth 40000 in
set_option maxHeartbeats 8000000 in
theorem walk (h : V.Hd) (xs : List V.ElemT) (w : World) (hs : V.SqElem w 0 h xs) (hn : ∀ q ∈ xs, V.ElemN q) (hl : xs.length ≤ maxLen) :
    Calls Try.prog 3 #[.slice h.a h.len h.cap] w fun r w' => r = .returned (.bool true) ∧ Below w.heap.size w w' := by
  have qz := hide (fun q w h0 h1 hs => V.szElemS_n h xs q w h0 h1 hn hl hs)
  have qt := hide (fun w g hs => V.toElemS_n h xs w g hs)
  have qs := hide (fun h w hs => V.sGoodDoc_b h xs w hn hl hs)
  have qi := hide (fun h w hs => V.iGoodDoc_b h xs w hn hl hs)
  have qe := hide (fun h g w h1 h2 => V.eqElemS_n h g xs w hl hn h1 h2)
  have HS := hide hs
  have B := hide (Below.refl w.heap.size w)
  clear hs hn hl
  go_enter Try.func3, Try.ntmps3
  go_wp2_with fail
  refine (unhide qz _ _ (by omega) (by omega) ((unhide HS).keep (unhide B))).mono ?_
  rintro r w1 ⟨⟨m, hm1, hm2, hm3, rfl⟩, hb1⟩
  replace B := hide (bTr (unhide B) hb1)
  clear hb1 qz
  by_cases hlt : m < 0
  · go_wp2_with fail
    go_ret
    exact ⟨rfl, unhide B⟩
  have QT := hide (fun w hs => unhide qt w (hm3 (by omega)) hs)
  clear qt hm3
  go_wp2_with fail
  refine (unhide QT _ ((unhide HS).keep (unhide B))).mono ?_
  rintro r w2 ⟨⟨h2, rfl, m2⟩, hb2⟩
  have hs2 := hide (unhide qs h2 w2 (m2.lo (Nat.zero_le _)))
  replace B := hide (bTr (unhide B) hb2)
  clear hb2 m2
  go_wp2_with fail
  refine (unhide hs2).mono ?_
  rintro r w3 ⟨⟨g, rfl, hg⟩, hb3⟩
  have HG := hide hg
  replace B := hide (bTr (unhide B) hb3)
  clear hb3 hs2 hg
  go_wp2_with fail
  refine (unhide QT _ ((unhide HS).keep (unhide B))).mono ?_
  rintro r w4 ⟨⟨h4, rfl, m4⟩, hb4⟩
  have M4 := hide (m4.lo (Nat.zero_le _))
  replace B := hide (bTr (unhide B) hb4)
  clear hb4 m4
  go_wp2_with fail
  refine (unhide qi h4 _ (unhide M4)).mono ?_
  rintro r w5 ⟨⟨g', rfl, hg'⟩, hb5⟩
  obtain rfl : g' = g := by
    have h := unhide HG
    cases g <;> cases g' <;> simp_all
  replace M4 := hide ((unhide M4).keep hb5)
  replace B := hide (bTr (unhide B) hb5)
  clear hb5 hg' HG
  have he : (g' != g') = false := by simp
  go_wp2_with fail
  refine (unhide QT _ ((unhide HS).keep (unhide B))).mono ?_
  rintro r w6 ⟨⟨h6, rfl, m6⟩, hb6⟩
  have M6 := hide (m6.lo (Nat.zero_le _))
  replace M4 := hide ((unhide M4).keep hb6)
  replace B := hide (bTr (unhide B) hb6)
  clear hb6 m6
  go_wp2_with fail
  refine (unhide qe h4 h6 _ (unhide M4) (unhide M6)).mono ?_
  rintro r w7 ⟨rfl, hb7⟩
  replace B := hide (bTr (unhide B) hb7)
  clear hb7
  go_wp2_with fail
  go_ret
  exact ⟨rfl, unhide B⟩

set_option maxRecDepth 100000 in
theorem lifted (os : Os) (started : os.Started) (H : Type) (enc : TypeId × Value → H) :
    ReturnsInHanded {} Try.checked os 3 .any (Rows.fnExactGoodDocSpec.pre6 enc Try.prog Try.f3 Rows.fnExactGoodDocRow.domain false) (Rows.fnExactGoodDocSpec.post enc Try.prog Try.f3 false true false false) := by
  refine returnsInHanded_of_change (C := Try.checked) own started (by kernel_rfl) Try.func3
    (ChangeSpec.witness6 (enc := enc) (C := Try.checked) false ⟨#[], #[.slice none 0 0], []⟩ 8 (by kernel_rfl) (by kernel_rfl) (by kernel_rfl) (by kernel_rfl)) ?_
  intro W base args ds gs before hval0 hW hcnd _
  have hval : ∀ (j : Nat) t v, Try.f3.params[j]? = some t → args[j]? = some v → Value.okWide Try.prog W .any base t v := hval0
  have hW' := hW
  obtain ⟨p, q, hA0, hV, rfl, hfz, hnd⟩ := hW
  have hA : DataW.TrodAll enc Try.prog W 0 (fun _ => true) true Try.f3.params.toList args.toList ds p := hA0
  rw [Try.params3] at hA hval
  obtain ⟨v0, vs0, d0, ds0, p0, q0, hargs, rfl, rfl, h0, r0⟩ := trodAll_cons hA
  obtain ⟨rfl, rfl, rfl⟩ := trodAll_nil r0
  obtain rfl : args = #[v0] := by cases args; simp_all
  obtain ⟨rfl, rfl⟩ := trodVars_none hV
  have k0 := h0
  have lt0 : ∀ x ∈ p0, x.block < W.heap.size := by obtain ⟨m, hm⟩ := k0; exact DataW.trod_lt m _ _ _ hm
  obtain ⟨g0, l0, e0, s0, o0, m0⟩ := V.cames_Elem (hval 0 22 v0 rfl rfl) h0
  subst e0
  clear hA0 hval0
  refine (walk g0 l0 W s0 o0 m0).mono fun e W' ⟨he, bel⟩ => ?_
  subst he
  exact ⟨_, rfl, _, _, _, [], _, [], hW', trodAll_mk1 (shut_bool Try.underlying4 _), (trodAll_cons_mk (Below.trod laidOut (by kernel_rfl) (of_decide_eq_true (by kernel_rfl)) k0 bel lt0) trodAll_mk0), rfl, bel.frame _, fun h => by cases h⟩

theorem over : Rows.fnExactGoodDocRow.holds Try.pinned (OpenSpec.ofChange Rows.fnExactGoodDocSpec) :=
  OpenClaim.holds_of_wide 3 Try.f3 rfl rfl rfl rfl rfl rfl rfl ⟨rfl, rfl, rfl, rfl, rfl⟩ rfl rfl rfl rfl rfl (by kernel_rfl) Try.func3 (by kernel_rfl)
    (of_decide_eq_true (by kernel_rfl)) (by unfold Func.isWrapper; rw [if_neg (by decide +kernel)]; exact ⟨rfl, rfl⟩)
    (fun os started H enc _ => lifted os started H enc)
end Go.Proofs.Ytdggpfaefnaefaa.fnExactGoodDoc
namespace Go.Proofs.Ytdggpfaefnaefaa
theorem fnExactGoodDoc_holds : Rows.FnExactGoodDocSaid := fnExactGoodDoc.over
end Go.Proofs.Ytdggpfaefnaefaa
