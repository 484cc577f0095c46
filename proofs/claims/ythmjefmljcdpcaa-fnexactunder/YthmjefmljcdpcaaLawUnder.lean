/- The row of laws.FnExactUnder: its walk, then the row's step. -/
import Derived.Test.YthmjefmljcdpcaaRows
import Derived.Test.YthmjefmljcdpcaaQUnd2
import Derived.Test.YthmjefmljcdpcaaQRead
import Derived.WalkKit
import Derived.ProofKit
import Derived.OpenShut
import Derived.ShutString
import Derived.ChangeOld
import Derived.Below
import Derived.Lib.SmallJoins
namespace Go.Proofs.Ythmjefmljcdpcaa.fnExactUnder
open Go.ChangeShapes Go.WideShapes Go.ChangeAt Go.RowKit Go.Joins
open Go.ChangeMaps (open_string shut_string)
set_option linter.unusedVariables false

theorem own : ownKnob Try.prog.godebug = none := by kernel_rfl
theorem laidOut : laidOutB Try.prog = true := by kernel_rfl

set_option maxHeartbeats 2000000 in
theorem walk (l : List PartT) (a : Option Addr) (len cap : Nat) (m : List PartT) (a2 : Option Addr) (len2 cap2 : Nat) (w : World) (hs : SlP w a len l) (hok : ∀ q ∈ l, PartT.Ok q) (hl : len ≤ maxLen) (hs2 : SlP w a2 len2 m) (hok2 : ∀ q ∈ m, PartT.Ok q) (hl2 : len2 ≤ maxLen) :
    Calls Try.prog 6 #[.slice a len cap, .slice a2 len2 cap2] w fun e w' => e = .returned (.bool true) ∧ Below w.heap.size w w' := by
  have qz := hide (fun q w h0 h1 hs => szPartS_any a len cap l q w h0 h1 hl hs hok)
  have qy := hide (fun q w h0 h1 hs => szPartS_any a2 len2 cap2 m q w h0 h1 hl2 hs hok2)
  have qs := hide (fun b1 b2 w h1 h2 => sUnder_any b1 b2 len len2 l m w hl hl2 hs.1 hs2.1 h1 h2 hok hok2)
  have qi := hide (fun b1 b2 w h1 h2 => iUnder_any b1 b2 len len2 l m w hl hl2 hs.1 hs2.1 h1 h2 hok hok2)
  have he1 := hide (fun b1 b2 w (h1 : PartRow w b1 0 l) (h2 : PartRow w b2 0 l) => eqPartS_same (some ⟨b1, 0, none⟩) (some ⟨b2, 0, none⟩) len len len len l w (slP_of hs.1 h1) (slP_of hs.1 h2) hl)
  have he2 := hide (fun b1 b2 w (h1 : PartRow w b1 0 m) (h2 : PartRow w b2 0 m) => eqPartS_same (some ⟨b1, 0, none⟩) (some ⟨b2, 0, none⟩) len2 len2 len2 len2 m w (slP_of hs2.1 h1) (slP_of hs2.1 h2) hl2)
  have HS := hide hs
  have HS2 := hide hs2
  clear hs hok hl hs2 hok2 hl2
  go_enter Try.func6, Try.ntmps6
  go_wp2_with fail
  refine (unhide qz _ _ (by omega) (by omega) (unhide HS)).mono ?_
  rintro e w1 ⟨⟨p, hm1, hm2, hm3, rfl⟩, hb1⟩
  have B1 := hide hb1
  clear hb1 qz
  by_cases hm : p < 0
  · go_wp2_with fail
    go_ret
    exact ⟨rfl, unhide B1⟩
  have g1 : len ≤ 1048576 := by omega
  clear hm3
  go_wp2_with fail
  refine (unhide qy _ _ (by omega) (by omega) ((unhide HS2).keep (unhide B1))).mono ?_
  rintro e w1' ⟨⟨p', hm1', hm2', hm3', rfl⟩, hb1⟩
  replace B1 := hide (bTr (unhide B1) hb1)
  clear hb1 qy
  by_cases hm' : p' < 0
  · go_wp2_with fail
    go_ret
    exact ⟨rfl, unhide B1⟩
  have g2 : len2 ≤ 1048576 := by omega
  clear hm3'
  have t1 := hide (fun w h => toPartS_any a len cap l w g1 h)
  have t2 := hide (fun w h => toPartS_any a2 len2 cap2 m w g2 h)
  clear g1 g2
  go_wp2_with fail
  refine (unhide t1 _ ((unhide HS).keep (unhide B1))).mono ?_
  rintro e w2 ⟨rfl, r2, hb2⟩
  have B2 := hide (bTr (unhide B1) hb2)
  have R2 := hide r2
  generalize w1'.heap.size = b2 at R2
  clear hb2 r2 B1
  go_wp2_with fail
  refine (unhide t2 _ ((unhide HS2).keep (unhide B2))).mono ?_
  rintro e w3 ⟨rfl, r3, hb3⟩
  have B3 := hide (bTr (unhide B2) hb3)
  replace R2 := hide ((unhide R2).keep hb3)
  have R3 := hide r3
  generalize w2.heap.size = b3 at R3
  clear hb3 r3 B2
  go_wp2_with fail
  refine (unhide qs _ _ _ (unhide R2) (unhide R3)).mono ?_
  rintro e w4 ⟨rfl, hb4⟩
  have B4 := hide (bTr (unhide B3) hb4)
  clear hb4 R2 R3 B3 qs
  go_wp2_with fail
  refine (unhide t1 _ ((unhide HS).keep (unhide B4))).mono ?_
  rintro e w5 ⟨rfl, r5, hb5⟩
  have B5 := hide (bTr (unhide B4) hb5)
  have R5 := hide r5
  generalize w4.heap.size = b5 at R5
  clear hb5 r5 B4
  go_wp2_with fail
  refine (unhide t2 _ ((unhide HS2).keep (unhide B5))).mono ?_
  rintro e w6 ⟨rfl, r6, hb6⟩
  have B6 := hide (bTr (unhide B5) hb6)
  replace R5 := hide ((unhide R5).keep hb6)
  have R6 := hide r6
  generalize w5.heap.size = b6 at R6
  clear hb6 r6 B5
  go_wp2_with fail
  refine (unhide qi _ _ _ (unhide R5) (unhide R6)).mono ?_
  rintro e w7 ⟨rfl, hb7⟩
  have B7 := hide (bTr (unhide B6) hb7)
  replace R5 := hide ((unhide R5).keep hb7)
  replace R6 := hide ((unhide R6).keep hb7)
  clear hb7 B6 qi
  have he : (underB l m != underB l m) = false := by simp
  generalize underB l m = T at he
  go_wp2_with fail
  refine (unhide t1 _ ((unhide HS).keep (unhide B7))).mono ?_
  rintro e w8 ⟨rfl, r8, hb8⟩
  have B8 := hide (bTr (unhide B7) hb8)
  replace R5 := hide ((unhide R5).keep hb8)
  replace R6 := hide ((unhide R6).keep hb8)
  have R8 := hide r8
  generalize w7.heap.size = b8 at R8
  clear hb8 r8 B7
  go_wp2_with fail
  refine (unhide he1 _ _ _ (unhide R5) (unhide R8)).mono ?_
  rintro e w9 ⟨rfl, hb9⟩
  have B9 := hide (bTr (unhide B8) hb9)
  replace R6 := hide ((unhide R6).keep hb9)
  clear hb9 R8 R5 B8 he1
  go_wp2_with fail
  refine (unhide t2 _ ((unhide HS2).keep (unhide B9))).mono ?_
  rintro e w10 ⟨rfl, r10, hb10⟩
  have B10 := hide (bTr (unhide B9) hb10)
  replace R6 := hide ((unhide R6).keep hb10)
  have R10 := hide r10
  generalize w9.heap.size = b10 at R10
  clear hb10 r10 B9
  go_wp2_with fail
  refine (unhide he2 _ _ _ (unhide R6) (unhide R10)).mono ?_
  rintro e w11 ⟨rfl, hb11⟩
  have B11 := hide (bTr (unhide B10) hb11)
  clear hb11
  go_wp2_with fail
  go_ret
  exact ⟨rfl, unhide B11⟩

set_option maxRecDepth 100000 in
theorem lifted (os : Os) (started : os.Started) (H : Type) (enc : TypeId × Value → H) :
    ReturnsInHanded {} Try.checked os 6 .any (Rows.fnExactUnderSpec.pre6 enc Try.prog Try.f6 Rows.fnExactUnderRow.domain false) (Rows.fnExactUnderSpec.post enc Try.prog Try.f6 false true false false) := by
  refine returnsInHanded_of_change (C := Try.checked) own started (by kernel_rfl) Try.func6
    (ChangeSpec.witness6 (enc := enc) (C := Try.checked) false ⟨#[], #[.slice none 0 0, .slice none 0 0], []⟩ 8 (by kernel_rfl) (by kernel_rfl) (by kernel_rfl) (by kernel_rfl)) ?_
  intro W base args ds gs before hval0 hW hcnd _
  have hval : ∀ (j : Nat) t v, Try.f6.params[j]? = some t → args[j]? = some v → Value.okWide Try.prog W .any base t v := hval0
  have hW' := hW
  obtain ⟨p, q, hA0, hV, rfl, hfz, hnd⟩ := hW
  have hA : DataW.TrodAll enc Try.prog W 0 (fun _ => true) true Try.f6.params.toList args.toList ds p := hA0
  rw [Try.params6] at hA hval
  obtain ⟨v0, vs0, d0, ds0, p0, q0, hargs, rfl, rfl, h0, r0⟩ := trodAll_cons hA
  obtain ⟨v1, vs1, d1, ds1, p1, q1, rfl, rfl, rfl, h1, r1⟩ := trodAll_cons r0
  obtain ⟨rfl, rfl, rfl⟩ := trodAll_nil r1
  obtain rfl : args = #[v0, v1] := by cases args; simp_all
  obtain ⟨rfl, rfl⟩ := trodVars_none hV
  have k0 := h0
  have lt0 : ∀ x ∈ p0, x.block < W.heap.size := by obtain ⟨m, hm⟩ := k0; exact DataW.trod_lt m _ _ _ hm
  obtain ⟨l0, a0, len0, cap0, e0, s0, o0, m0⟩ := read_name (hval 0 22 v0 rfl rfl) h0
  subst e0
  have k1 := h1
  have lt1 : ∀ x ∈ p1, x.block < W.heap.size := by obtain ⟨m, hm⟩ := k1; exact DataW.trod_lt m _ _ _ hm
  obtain ⟨l1, a1, len1, cap1, e1, s1, o1, m1⟩ := read_name (hval 1 22 v1 rfl rfl) h1
  subst e1
  clear hA0 hval0
  refine (walk l0 a0 len0 cap0 l1 a1 len1 cap1 W s0 o0 m0 s1 o1 m1).mono fun e W' ⟨he, bel⟩ => ?_
  subst he
  exact ⟨_, rfl, _, _, _, [], _, [], hW', trodAll_mk1 (shut_bool Try.underlying4 _), (trodAll_cons_mk (Below.trod laidOut (by kernel_rfl) (of_decide_eq_true (by kernel_rfl)) k0 bel lt0) (trodAll_cons_mk (Below.trod laidOut (by kernel_rfl) (of_decide_eq_true (by kernel_rfl)) k1 bel lt1) trodAll_mk0)), rfl, bel.frame _, fun h => by cases h⟩

theorem over : Rows.fnExactUnderRow.holds Try.pinned (OpenSpec.ofChange Rows.fnExactUnderSpec) :=
  OpenClaim.holds_of_wide 6 Try.f6 rfl rfl rfl rfl rfl rfl rfl ⟨rfl, rfl, rfl, rfl, rfl⟩ rfl rfl rfl rfl rfl (by kernel_rfl) Try.func6 (by kernel_rfl)
    (of_decide_eq_true (by kernel_rfl)) (by unfold Func.isWrapper; rw [if_neg (by decide +kernel)]; exact ⟨rfl, rfl⟩)
    (fun os started H enc _ => lifted os started H enc)
end Go.Proofs.Ythmjefmljcdpcaa.fnExactUnder
namespace Go.Proofs.Ythmjefmljcdpcaa
theorem fnExactUnder_holds : Rows.FnExactUnderSaid := fnExactUnder.over
end Go.Proofs.Ythmjefmljcdpcaa
