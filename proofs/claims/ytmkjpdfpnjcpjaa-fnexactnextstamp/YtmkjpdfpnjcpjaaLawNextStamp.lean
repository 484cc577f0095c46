/- The row of laws.FnExactNextStamp: its walk, then the row's step. -/
import Derived.Test.YtmkjpdfpnjcpjaaRows
import Derived.Test.YtmkjpdfpnjcpjaaQNxS
import Derived.WalkKit
import Derived.ProofKit
import Derived.OpenShut
import Derived.ShutString
import Derived.ChangeOld
import Derived.Below
import Derived.Lib.SmallJoins
namespace Go.Proofs.Ytmkjpdfpnjcpjaa.fnExactNextStamp
open Go.ChangeShapes Go.WideShapes Go.ChangeAt Go.RowKit Go.Joins
open Go.ChangeMaps (open_string shut_string)
set_option linter.unusedVariables false

theorem own : ownKnob Try.prog.godebug = none := by kernel_rfl
theorem laidOut : laidOutB Try.prog = true := by kernel_rfl

set_option maxHeartbeats 1000000 in
theorem walk (l : List DcT) (a : Option Addr) (len cap : Nat) (who : Int) (w : World) (hs : SlC w a len l) (hok : ∀ q ∈ l, DcT.Ok q) (hl : len ≤ maxLen) :
    Calls Try.prog 6 #[.slice a len cap, .int .i64 who] w fun e w' => e = .returned (.bool true) ∧ Below w.heap.size w w' := by
  have qz := hide (fun q w h0 h1 hs => szDirChangeS_any a len cap l q w h0 h1 hl hs hok)
  have HS := hide hs
  have HO := hide hok
  have HL := hide hl
  have hll := hide hs.1
  clear hs hok hl
  go_enter Try.func6, Try.ntmps6
  go_wp2_with fail
  refine (unhide qz _ _ (by omega) (by omega) (unhide HS)).mono ?_
  rintro e w1 ⟨⟨m, hm1, hm2, hm3, rfl⟩, hb1⟩
  have B1 := hide hb1
  clear hb1 qz
  by_cases hm : m < 0
  · go_wp2_with fail
    go_ret
    exact ⟨rfl, unhide B1⟩
  have g1 : len ≤ 1048576 := by omega
  clear hm3
  go_wp2_with fail
  refine (toDirChangeS_any a len cap l _ g1 ((unhide HS).keep (unhide B1))).mono ?_
  rintro e w2 ⟨rfl, r2, hb2⟩
  have S2 := hide (show SlC w2 (some ⟨w1.heap.size, 0, none⟩) len l from ⟨unhide hll, .inr ⟨_, 0, rfl, r2⟩⟩)
  have B2 := hide (bTr (unhide B1) hb2)
  clear hb2 r2 B1
  go_wp2_with fail
  refine (sNextStamp_any _ len _ l who _ (unhide HL) (unhide S2) (unhide HO)).mono ?_
  rintro e w3 ⟨⟨x1, y1, rfl, ht1⟩, hb3⟩
  have T1 := hide ht1
  have B3 := hide (bTr (unhide B2) hb3)
  clear hb3 S2 B2 ht1
  have R3 := hide (RowIs.new w3 #[.int .i64 x1, .int .i64 y1] 41)
  have B3' := hide ((unhide B3).alloc (unhide B3).size (.cells #[.int .i64 x1, .int .i64 y1] 41))
  go_wp2_with fail
  refine (toDirChangeS_any a len cap l _ g1 ((unhide HS).keep (unhide B3'))).mono ?_
  rintro e w4 ⟨rfl, r4, hb4⟩
  have e4 : (w3.alloc (.cells #[.int .i64 x1, .int .i64 y1] 41)).heap.size = w3.heap.size + 1 := by simp
  rw [e4] at r4
  rw [e4]
  clear e4
  have S4 := hide (show SlC w4 (some ⟨w3.heap.size + 1, 0, none⟩) len l from ⟨unhide hll, .inr ⟨_, 0, rfl, r4⟩⟩)
  have B4 := hide (bTr (unhide B3') hb4)
  have R4 := hide ((unhide R3).keep hb4)
  clear hb4 r4 B3 B3' R3
  go_wp2_with fail
  refine (iNextStamp_any _ len _ l who _ (unhide HL) (unhide S4) (unhide HO)).mono ?_
  rintro e w5 ⟨⟨x2, y2, rfl, ht2⟩, hb5⟩
  obtain ⟨rfl, rfl⟩ := ht2.uniq (unhide T1)
  have R5 := (unhide R4).keep hb5
  have c0 := R5.at (o := 0) (v := .int .i64 x2) rfl
  have c1 := R5.at (o := 1) (v := .int .i64 y2) rfl
  have z5 := R5.lt
  have S5 := hide (((unhide S4).keep hb5).keep (bAl (Below.refl w5.heap.size w5) (.cells #[.int .i64 x2, .int .i64 y2] 41)))
  have B5 := hide (bTr (unhide B4) hb5)
  have B5' := hide ((unhide B5).alloc (unhide B5).size (.cells #[.int .i64 x2, .int .i64 y2] 41))
  clear hb5 ht2 T1 R4 R5 S4 B4 B5
  go_wp2_with fail
  refine (eqStamp_same x2 y2 _).mono ?_
  rintro e w6 ⟨rfl, hb6⟩
  have S6 := hide ((unhide S5).keep hb6)
  have B6 := hide (bTr (unhide B5') hb6)
  clear hb6 S5 B5' c0 c1 z5
  go_wp2_with fail
  refine (toDirChangeS_any a len cap l _ g1 ((unhide HS).keep (unhide B6))).mono ?_
  rintro e w7 ⟨rfl, r7, hb7⟩
  have S7 := hide (show SlC w7 (some ⟨w6.heap.size, 0, none⟩) len l from ⟨unhide hll, .inr ⟨_, 0, rfl, r7⟩⟩)
  have B7 := hide (bTr (unhide B6) hb7)
  have S8 := hide ((unhide S6).keep hb7)
  clear hb7 r7 B6 S6
  go_wp2_with fail
  refine (eqDirChangeS_same _ _ len len len len l _ (unhide S8) (unhide S7) (unhide HL)).mono ?_
  rintro e w8 ⟨rfl, hb8⟩
  have B8 := hide (bTr (unhide B7) hb8)
  clear hb8
  go_wp2_with fail
  go_ret
  exact ⟨rfl, unhide B8⟩

set_option maxRecDepth 100000 in
theorem lifted (os : Os) (started : os.Started) (H : Type) (enc : TypeId × Value → H) :
    ReturnsInHanded {} Try.checked os 6 .any (Rows.fnExactNextStampSpec.pre6 enc Try.prog Try.f6 Rows.fnExactNextStampRow.domain false) (Rows.fnExactNextStampSpec.post enc Try.prog Try.f6 false true false false) := by
  refine returnsInHanded_of_change (C := Try.checked) own started (by kernel_rfl) Try.func6
    (ChangeSpec.witness6 (enc := enc) (C := Try.checked) false ⟨#[], #[.slice none 0 0, .int .i64 0], []⟩ 8 (by kernel_rfl) (by kernel_rfl) (by kernel_rfl) (by kernel_rfl)) ?_
  intro W base args ds gs before hval0 hW hcnd _
  have hval : ∀ (j : Nat) t v, Try.f6.params[j]? = some t → args[j]? = some v → Value.okWide Try.prog W .any base t v := hval0
  have hW' := hW
  obtain ⟨p, q, hA0, hV, rfl, hfz, hnd⟩ := hW
  have hA : DataW.TrodAll enc Try.prog W 0 (fun _ => true) true Try.f6.params.toList args.toList ds p := hA0
  rw [Try.params6] at hA hval
  obtain ⟨v0, vs0, d0, ds0, p0, q0, hargs, rfl, rfl, h0, r0⟩ := trodAll_cons hA
  obtain ⟨v1, vs1, d1, ds1, p1, q1, rfl, rfl, rfl, h1, r1⟩ := trodAll_cons r0
  obtain ⟨rfl, rfl, rfl⟩ := trodAll_nil r1
  obtain rfl : args = #[v0, v1] := by cases args; simp_all
  obtain ⟨rfl, rfl⟩ := trodVars_none hV
  have k0 := h0
  have lt0 : ∀ x ∈ p0, x.block < W.heap.size := by obtain ⟨m, hm⟩ := k0; exact DataW.trod_lt m _ _ _ hm
  obtain ⟨l0, a0, len0, cap0, e0, s0, o0, m0⟩ := read_log (hval 0 22 v0 rfl rfl) h0
  subst e0
  obtain ⟨a1, rfl, rfl, rfl, w1⟩ := open_int Try.underlying3 (hval 1 3 v1 rfl rfl) h1
  clear hA0 hval0
  refine (walk l0 a0 len0 cap0 a1 W s0 o0 m0).mono fun e W' ⟨he, bel⟩ => ?_
  subst he
  exact ⟨_, rfl, _, _, _, [], _, [], hW', trodAll_mk1 (shut_bool Try.underlying4 _), (trodAll_cons_mk (Below.trod laidOut (by kernel_rfl) (of_decide_eq_true (by kernel_rfl)) k0 bel lt0) (trodAll_cons_mk (shut_int Try.underlying3 w1) trodAll_mk0)), rfl, bel.frame _, fun h => by cases h⟩

theorem over : Rows.fnExactNextStampRow.holds Try.pinned (OpenSpec.ofChange Rows.fnExactNextStampSpec) :=
  OpenClaim.holds_of_wide 6 Try.f6 rfl rfl rfl rfl rfl rfl rfl ⟨rfl, rfl, rfl, rfl, rfl⟩ rfl rfl rfl rfl rfl (by kernel_rfl) Try.func6 (by kernel_rfl)
    (of_decide_eq_true (by kernel_rfl)) (by unfold Func.isWrapper; rw [if_neg (by decide +kernel)]; exact ⟨rfl, rfl⟩)
    (fun os started H enc _ => lifted os started H enc)
end Go.Proofs.Ytmkjpdfpnjcpjaa.fnExactNextStamp
namespace Go.Proofs.Ytmkjpdfpnjcpjaa
theorem fnExactNextStamp_holds : Rows.FnExactNextStampSaid := fnExactNextStamp.over
end Go.Proofs.Ytmkjpdfpnjcpjaa
