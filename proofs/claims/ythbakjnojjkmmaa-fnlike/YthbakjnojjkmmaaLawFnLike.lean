/- The row of laws.FnLike: its walk, then the row's step. -/
import Derived.Test.YthbakjnojjkmmaaRows
import Derived.Test.YthbakjnojjkmmaaMore
import Derived.Test.YthbakjnojjkmmaaDraw
import Derived.WalkKit
import Derived.ProofKit
import Derived.OpenShut
import Derived.ShutString
import Derived.ChangeOld
import Derived.Below
import Derived.Lib.SmallJoins
namespace Go.Proofs.Ythbakjnojjkmmaa.fnLike
open Go.ChangeShapes Go.WideShapes Go.ChangeAt Go.RowKit Go.Joins
open Go.ChangeMaps (open_string shut_string)
set_option linter.unusedVariables false

theorem own : ownKnob Try.prog.godebug = none := by kernel_rfl
theorem laidOut : laidOutB Try.prog = true := by kernel_rfl

/-- A slice of integers that came in: nil, or a row of 'cap' cells. -/
def IsRow (k : IntKind) (w : World) (a : Option Addr) (len cap : Nat) (zs : List Int) : Prop :=
  (a = none ∧ len = 0 ∧ cap = 0 ∧ zs = []) ∨
  ∃ x, a = some x ∧ len ≤ cap ∧ cap ≤ maxLen ∧ zs.length = cap ∧ (∀ i, i < zs.length → w.cell? (x.add i) = some (.int k (zs.getD i 0))) ∧ ∀ n ∈ zs, (Lit.int k n).wf = true

set_option maxHeartbeats 2000000 in
theorem walk (a : Option Addr) (len cap : Nat) (zs : List Int) (w : World) (hr : IsRow .u8 w a len cap zs) :
    Calls Try.prog 4 #[.slice a len cap] w fun e w' => e = .returned (.bool true) ∧ Below w.heap.size w w' := by
  have hc := code_of hr
  clear hr
  have hl := hc.1
  unfold maxLen at hl
  have HC := hide hc
  clear hc
  by_cases h1 : (1048576 : Int) < (len : Int)
  · go_enter Try.func4, Try.ntmps4
    go_wp2_with fail
    go_ret
    exact ⟨rfl, Below.refl _ _⟩
  clear hl
  go_enter Try.func4, Try.ntmps4
  go_wp2_with fail
  refine (drawLike_any a len cap w (unhide HC)).mono ?_
  rintro e w1 ⟨⟨t, p, ht, hp, rfl⟩, hb1⟩
  have B1 := hide hb1
  clear hb1
  go_wp2_with fail
  refine (iLike_any t p _ (by unfold maxLen; omega) (by unfold maxLen; omega)).mono ?_
  rintro e w2 ⟨⟨g, rfl, hg⟩, hb2⟩
  have HG := hide hg
  have B2 := hide (bTr (unhide B1) hb2)
  clear hg hb2 B1
  go_wp2_with fail
  refine (sLike_any t p _ (by unfold maxLen; omega) (by unfold maxLen; omega)).mono ?_
  rintro e w3 ⟨⟨g', rfl, hg'⟩, hb3⟩
  obtain rfl : g' = g := by
    have h := unhide HG
    cases g <;> cases g' <;> simp_all
  have B3 := hide (bTr (unhide B2) hb3)
  clear hg' hb3 B2
  go_wp2_with fail
  refine (patternOf_any t (by omega) _).mono ?_
  rintro e w4 ⟨rfl, hb4⟩
  have B4 := hide (bTr (unhide B3) hb4)
  clear hb4 B3
  have es := ownPat_size t
  have L0 := hide (likes_own t (by omega))
  have L1 := hide (likes_own_no t ⟨#[120]⟩ (by decide))
  have L2 := hide (likes_star t _ ⟨#[120]⟩ (unhide L0) (by show _ + 1 ≤ _; omega) (by omega))
  have L3 := hide (fun h : Likes t p => likes_star t p ⟨#[121, 122]⟩ h (by show _ + 2 ≤ _; omega) (by omega))
  generalize eo : (⟨(esc [42, 92] t.data.toList).toArray⟩ : ByteArray) = o
  have eo' : ownPat t = o := eo
  rw [eo'] at es L0 L1 L2
  clear eo eo'
  have s1 : (t ++ ⟨#[120]⟩).size = t.size + 1 := ByteArray.size_append
  have s2 : (o ++ ⟨#[42]⟩).size = o.size + 1 := ByteArray.size_append
  have s3 : (t ++ ⟨#[121, 122]⟩).size = t.size + 2 := ByteArray.size_append
  have s4 : (p ++ ⟨#[42]⟩).size = p.size + 1 := ByteArray.size_append
  have q1 := hide (fun w => iLike_any t o w (by unfold maxLen; omega) (by unfold maxLen; omega))
  have q2 := hide (fun w => iLike_any (t ++ ⟨#[120]⟩) o w (by unfold maxLen; omega) (by unfold maxLen; omega))
  have q3 := hide (fun w => iLike_any (t ++ ⟨#[120]⟩) (o ++ ⟨#[42]⟩) w (by unfold maxLen; omega) (by unfold maxLen; omega))
  have q4 := hide (fun w => iLike_any (t ++ ⟨#[121, 122]⟩) (p ++ ⟨#[42]⟩) w (by unfold maxLen; omega) (by unfold maxLen; omega))
  clear s1 s2 s3 s4
  have es' : o.size ≤ 60 := by omega
  have d1 : decide ((200 : Int) < (o.size : Int) + 1) = false := by simp; omega
  have d2 : decide ((200 : Int) < (p.size : Int) + 1) = false := by simp; omega
  clear es
  go_wp2_with fail
  refine (unhide q1 _).mono ?_
  rintro e w5 ⟨⟨g1, rfl, hg1⟩, hb5⟩
  obtain rfl : g1 = true := hg1.2 (unhide L0)
  have B5 := hide (bTr (unhide B4) hb5)
  clear hg1 hb5 B4
  go_wp2_with fail
  refine (unhide q2 _).mono ?_
  rintro e w6 ⟨⟨g2, rfl, hg2⟩, hb6⟩
  obtain rfl : g2 = false := by
    cases g2
    · rfl
    · exact absurd (hg2.1 rfl) (unhide L1)
  have B6 := hide (bTr (unhide B5) hb6)
  clear hg2 hb6 B5
  go_wp2_with fail
  refine (unhide q3 _).mono ?_
  rintro e w7 ⟨⟨g3, rfl, hg3⟩, hb7⟩
  obtain rfl : g3 = true := hg3.2 (unhide L2)
  have B7 := hide (bTr (unhide B6) hb7)
  clear hg3 hb7 B6
  cases g'
  · go_wp2_with fail
    go_ret
    exact ⟨rfl, unhide B7⟩
  · have lk : Hid (Likes t p) := hide ((unhide HG).1 rfl)
    go_wp2_with fail
    refine (unhide q4 _).mono ?_
    rintro e w8 ⟨⟨g4, rfl, hg4⟩, hb8⟩
    obtain rfl : g4 = true := hg4.2 (unhide L3 (unhide lk))
    have B8 := hide (bTr (unhide B7) hb8)
    clear hg4 hb8 B7
    go_wp2_with fail
    go_ret
    exact ⟨rfl, unhide B8⟩

set_option maxRecDepth 100000 in
theorem lifted (os : Os) (started : os.Started) (H : Type) (enc : TypeId × Value → H) :
    ReturnsInHanded {} Try.checked os 4 .any (Rows.fnLikeSpec.pre6 enc Try.prog Try.f4 Rows.fnLikeRow.domain false) (Rows.fnLikeSpec.post enc Try.prog Try.f4 false true false false) := by
  refine returnsInHanded_of_change (C := Try.checked) own started (by kernel_rfl) Try.func4
    (ChangeSpec.witness6 (enc := enc) (C := Try.checked) false ⟨#[], #[.slice none 0 0], []⟩ 8 (by kernel_rfl) (by kernel_rfl) (by kernel_rfl) (by kernel_rfl)) ?_
  intro W base args ds gs before hval0 hW hcnd _
  have hval : ∀ (j : Nat) t v, Try.f4.params[j]? = some t → args[j]? = some v → Value.okWide Try.prog W .any base t v := hval0
  have hW' := hW
  obtain ⟨p, q, hA0, hV, rfl, hfz, hnd⟩ := hW
  have hA : DataW.TrodAll enc Try.prog W 0 (fun _ => true) true Try.f4.params.toList args.toList ds p := hA0
  rw [Try.params4] at hA hval
  obtain ⟨v0, vs0, d0, ds0, p0, q0, hargs, rfl, rfl, h0, r0⟩ := trodAll_cons hA
  obtain ⟨rfl, rfl, rfl⟩ := trodAll_nil r0
  obtain rfl : args = #[v0] := by cases args; simp_all
  obtain ⟨rfl, rfl⟩ := trodVars_none hV
  obtain ⟨a0, len0, cap0, rfl⟩ := okWide_slice Try.underlying22 (hval 0 22 v0 rfl rfl)
  have k0 := h0
  have lt0 : ∀ x ∈ p0, x.block < W.heap.size := by obtain ⟨m, hm⟩ := k0; exact DataW.trod_lt m _ _ _ hm
  obtain ⟨z0, w0⟩ : ∃ zs, IsRow .u8 W a0 len0 cap0 zs := by
    obtain ⟨fuel, hf⟩ := h0
    rcases open_ints Try.underlying22 Try.underlying5 (by kernel_rfl) hf with ⟨hcs, _⟩ | ⟨x, l, c, zs, hcs, _, hl, hm, hz, _, hcell, hwz⟩
    · simp [Value.cells] at hcs
      obtain ⟨rfl, rfl, rfl⟩ := hcs
      exact ⟨[], .inl ⟨rfl, rfl, rfl, rfl⟩⟩
    · simp [Value.cells] at hcs
      obtain ⟨rfl, rfl, rfl⟩ := hcs
      exact ⟨zs, .inr ⟨_, rfl, hl, hm, by simpa using hz, hcell, hwz⟩⟩
  clear hA0 hval0
  refine (walk a0 len0 cap0 z0 W w0).mono fun e W' ⟨he, bel⟩ => ?_
  subst he
  exact ⟨_, rfl, _, _, _, [], _, [], hW', trodAll_mk1 (shut_bool Try.underlying4 _), (trodAll_cons_mk (Below.trod laidOut (by kernel_rfl) (of_decide_eq_true (by kernel_rfl)) k0 bel lt0) trodAll_mk0), rfl, bel.frame _, fun h => by cases h⟩

theorem over : Rows.fnLikeRow.holds Try.pinned (OpenSpec.ofChange Rows.fnLikeSpec) :=
  OpenClaim.holds_of_wide 4 Try.f4 rfl rfl rfl rfl rfl rfl rfl ⟨rfl, rfl, rfl, rfl, rfl⟩ rfl rfl rfl rfl rfl (by kernel_rfl) Try.func4 (by kernel_rfl)
    (of_decide_eq_true (by kernel_rfl)) (by unfold Func.isWrapper; rw [if_neg (by decide +kernel)]; exact ⟨rfl, rfl⟩)
    (fun os started H enc _ => lifted os started H enc)
end Go.Proofs.Ythbakjnojjkmmaa.fnLike
namespace Go.Proofs.Ythbakjnojjkmmaa
theorem fnLike_holds : Rows.FnLikeSaid := fnLike.over
end Go.Proofs.Ythbakjnojjkmmaa
