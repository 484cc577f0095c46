/- The row of laws.FnExactUnarmor: its walk, then the row's step. -/
import Derived.Test.YtcgodelkanifbaaRows
import Derived.Test.YtcgodelkanifbaaUnaT
import Derived.Test.YtcgodelkanifbaaIn
import Derived.WalkKit
import Derived.ProofKit
import Derived.OpenShut
import Derived.ShutString
import Derived.ChangeOld
import Derived.Below
import Derived.Lib.SmallJoins
namespace Go.Proofs.Ytcgodelkanifbaa.fnExactUnarmor
open Go.ChangeShapes Go.WideShapes Go.ChangeAt Go.RowKit Go.Joins
open Go.ChangeMaps (open_string shut_string)
set_option linter.unusedVariables false

theorem own : ownKnob Try.prog.godebug = none := by kernel_rfl
theorem laidOut : laidOutB Try.prog = true := by kernel_rfl

/-- A slice that may be marked, and whose marks are held. -/
def Marks (w : World) (v : Value) (n : Nat) : Prop := (v = .slice none 0 0 ∧ n = 0) ∨ ∃ g cap C, v = .slice (some ⟨g, 0, none⟩) n cap ∧ RowIs w g C 5 ∧ MarkedTo C 1 n
theorem Marks.keep {w w' : World} {v : Value} {n : Nat} (h : Marks w v n) (hb : Below w.heap.size w w') : Marks w' v n :=
  h.imp_right fun ⟨g, cap, C, e, r, m⟩ => ⟨g, cap, C, e, r.keep hb, m⟩
theorem mark_own (v : Value) (l : List UInt8) (base : Nat) (w : World) (hl : l.length ≤ 1048576) (hB : base ≤ w.heap.size) (h : w.ownsRow base 5 1 v l.length (l.map byteV)) :
    Calls Try.prog 19 #[v, .int .i64 1] w fun e w' => e = .returned (.int .i64 (1 + l.length)) ∧ Marks w' v l.length ∧ Below base w w' := by
  rcases h.2 with ⟨rfl, e0⟩ | ⟨g, cap, cur, rfl, hg, hh, _, _, hsz, _⟩
  · go_enter Try.func19, Try.ntmps19
    go_wp2_with fail
    go_loopw [1, 5] (fun q i w' => i = .int .i64 0 ∧ q = .int .i64 1 ∧ w = w') (fun _ _ _ => 0)
    case atStart => exact ⟨rfl, rfl, rfl⟩
    case round =>
      obtain ⟨rfl, rfl, rfl⟩ := hrel
      go_wp2_with fail
      go_ret
      exact ⟨by rw [e0]; rfl, .inl ⟨rfl, e0⟩, Below.refl _ _⟩
  · have hr : RowIs w g cur 5 := hh
    refine (mark_any g l.length cap cur 1 w hl (by omega) (by omega) (by rw [hsz]; omega) hr).mono ?_
    rintro e w' ⟨rfl, ⟨C', _, hM, hr'⟩, hb⟩
    exact ⟨rfl, .inr ⟨g, cap, C', rfl, hr', hM⟩, hb.below hg hB⟩
theorem held_own (v : Value) (n : Nat) (w : World) (hl : n ≤ 1048576) (h : Marks w v n) :
    Calls Try.prog 20 #[v, .int .i64 1] w fun e w' => e = .returned (.int .i64 (1 + n)) ∧ w = w' := by
  rcases h with ⟨rfl, rfl⟩ | ⟨g, cap, C, rfl, hr, hM⟩
  · go_enter Try.func20, Try.ntmps20
    go_wp2_with fail
    go_loop [1, 5] (fun q i => i = .int .i64 0 ∧ q = .int .i64 1) (fun _ _ => 0)
    case atStart => exact ⟨rfl, rfl⟩
    case round =>
      obtain ⟨rfl, rfl⟩ := hrel
      go_wp2_with fail
      go_ret
      exact ⟨rfl, rfl⟩
  · exact held_any g n cap C 1 w hl (by omega) (by omega) hM hr

set_option maxHeartbeats 2000000 in
theorem walk (a0 : ByteArray) (w : World) (w0 : a0.size ≤ maxLen) :
    Calls Try.prog 6 #[.string a0] w fun e w' => e = .returned (.bool true) ∧ Below w.heap.size w w' := by
  have hm := w0
  unfold maxLen at hm
  by_cases h : (1048576 : Int) < (a0.size : Int)
  · go_enter Try.func6, Try.ntmps6
    go_wp2_with fail
    go_ret
    exact ⟨rfl, Below.refl _ _⟩
  have hs : a0.size ≤ 1048576 := by omega
  clear hm w0
  go_enter Try.func6, Try.ntmps6
  go_wp2_with fail
  refine (sUnarmor_any a0 _ hs).mono ?_
  rintro e w1 ⟨v1, D, ok, rfl, hD, hU1, hO1, hb1⟩
  have U1 := hide hU1
  obtain ⟨a1, cap1, rfl, hs1⟩ := own_sl hO1
  have S1 := hide hs1
  have B1 := hide hb1
  clear hU1 hO1 hs1 hb1
  go_wp2_with fail
  refine (iUnarmor_any a0 _ hs).mono ?_
  rintro e w2 ⟨v2, D2, ok2, rfl, hD2, hU2, hO2, hb2⟩
  obtain ⟨rfl, rfl⟩ := (unhide U1).one hU2
  obtain ⟨a2, cap2, rfl, hs2⟩ := own_sl hO2
  have O2 := hide hO2
  have S2 := hide hs2
  have S1' := hide ((unhide S1).keep hb2)
  have B2 := hide (bTr (unhide B1) hb2)
  have z2 := hb2.size
  have z1 := (unhide B1).size
  clear hU2 hO2 hs2 hb2 S1 B1
  go_wp2_with fail
  refine (eqByteS_any a2 a1 D.length D.length cap2 cap1 D D _ hD hD (unhide S2) ((unhide S1').mono z2)).mono ?_
  rintro e w3 ⟨rfl, hb3⟩
  rw [decide_eq_true (rfl : D = D)]
  have O3 := hide (own_keep (unhide O2) hb3)
  have S3 := hide ((unhide S1').keep hb3)
  have B3 := hide (bTr (unhide B2) hb3)
  have z3 := hb3.size
  clear hb3 O2 S2 S1' B2
  have hne : (ok != ok) = false := by simp
  go_wp2_with fail
  refine (mark_own _ D _ _ hD (by omega) (unhide O3)).mono ?_
  rintro e w4 ⟨rfl, hM4, hb4⟩
  have M4 := hide hM4
  have S4 := hide ((unhide S3).keepB hb4)
  have B4 := hide ((unhide B3).trans (hb4.mono z1))
  have z4 := hb4.size
  clear hM4 hb4 O3 S3 B3
  go_wp2_with fail
  refine (held_own _ D.length _ hD (unhide M4)).mono ?_
  rintro e w5 ⟨rfl, rfl⟩
  go_wp2_with fail
  refine (iUnarmor_any a0 _ hs).mono ?_
  rintro e w6 ⟨v6, D6, ok6, rfl, hD6, hU6, hO6, hb6⟩
  obtain ⟨rfl, rfl⟩ := (unhide U1).one hU6
  obtain ⟨a6, cap6, rfl, hs6⟩ := own_sl hO6
  have S6 := hide hs6
  have S1' := hide ((unhide S4).keep hb6)
  have B6 := hide (bTr (unhide B4) hb6)
  have M6 := hide ((unhide M4).keep hb6)
  have z6 := hb6.size
  clear hU6 hO6 hs6 hb6 S4 B4 M4
  go_wp2_with fail
  refine (eqByteS_any a6 a1 D.length D.length cap6 cap1 D D _ hD hD (unhide S6) ((unhide S1').mono (by omega))).mono ?_
  rintro e w7 ⟨rfl, hb7⟩
  rw [decide_eq_true (rfl : D = D)]
  have B7 := hide (bTr (unhide B6) hb7)
  have M7 := hide ((unhide M6).keep hb7)
  clear hb7 S6 S1' B6 M6
  go_wp2_with fail
  refine (held_own _ D.length _ hD (unhide M7)).mono ?_
  rintro e w8 ⟨rfl, rfl⟩
  go_wp2_with fail
  go_ret
  exact ⟨rfl, unhide B7⟩

set_option maxRecDepth 100000 in
theorem lifted (os : Os) (started : os.Started) (H : Type) (enc : TypeId × Value → H) :
    ReturnsInHanded {} Try.checked os 6 .any (Rows.fnExactUnarmorSpec.pre6 enc Try.prog Try.f6 Rows.fnExactUnarmorRow.domain false) (Rows.fnExactUnarmorSpec.post enc Try.prog Try.f6 false true false false) := by
  refine returnsInHanded_of_change (C := Try.checked) own started (by kernel_rfl) Try.func6
    (ChangeSpec.witness6 (enc := enc) (C := Try.checked) false ⟨#[], #[.string ByteArray.empty], []⟩ 8 (by kernel_rfl) (by kernel_rfl) (by kernel_rfl) (by kernel_rfl)) ?_
  intro W base args ds gs before hval0 hW hcnd _
  have hval : ∀ (j : Nat) t v, Try.f6.params[j]? = some t → args[j]? = some v → Value.okWide Try.prog W .any base t v := hval0
  have hW' := hW
  obtain ⟨p, q, hA0, hV, rfl, hfz, hnd⟩ := hW
  have hA : DataW.TrodAll enc Try.prog W 0 (fun _ => true) true Try.f6.params.toList args.toList ds p := hA0
  rw [Try.params6] at hA hval
  obtain ⟨v0, vs0, d0, ds0, p0, q0, hargs, rfl, rfl, h0, r0⟩ := trodAll_cons hA
  obtain ⟨rfl, rfl, rfl⟩ := trodAll_nil r0
  obtain rfl : args = #[v0] := by cases args; simp_all
  obtain ⟨rfl, rfl⟩ := trodVars_none hV
  obtain ⟨a0, rfl, rfl, rfl, w0⟩ := open_string Try.underlying9 (hval 0 9 v0 rfl rfl) h0
  clear hA0 hval0
  refine (walk a0 W w0).mono fun e W' ⟨he, bel⟩ => ?_
  subst he
  exact ⟨_, rfl, _, _, _, [], _, [], hW', trodAll_mk1 (shut_bool Try.underlying4 _), (trodAll_cons_mk (shut_string Try.underlying9 w0) trodAll_mk0), rfl, bel.frame _, fun h => by cases h⟩

theorem over : Rows.fnExactUnarmorRow.holds Try.pinned (OpenSpec.ofChange Rows.fnExactUnarmorSpec) :=
  OpenClaim.holds_of_wide 6 Try.f6 rfl rfl rfl rfl rfl rfl rfl ⟨rfl, rfl, rfl, rfl, rfl⟩ rfl rfl rfl rfl rfl (by kernel_rfl) Try.func6 (by kernel_rfl)
    (of_decide_eq_true (by kernel_rfl)) (by unfold Func.isWrapper; rw [if_neg (by decide +kernel)]; exact ⟨rfl, rfl⟩)
    (fun os started H enc _ => lifted os started H enc)
end Go.Proofs.Ytcgodelkanifbaa.fnExactUnarmor
namespace Go.Proofs.Ytcgodelkanifbaa
theorem fnExactUnarmor_holds : Rows.FnExactUnarmorSaid := fnExactUnarmor.over
end Go.Proofs.Ytcgodelkanifbaa
