/- The row of laws.FnExactRunTries: its walk, then the row's step. -/
import Derived.Test.YtdfjhnfidbkdpaaRows
import Derived.Test.YtdfjhnfidbkdpaaKTb
import Derived.WalkKit
import Derived.ProofKit
import Derived.OpenShut
import Derived.ShutString
import Derived.ChangeOld
import Derived.Below
import Derived.Lib.SmallJoins
namespace Go.Proofs.Ytdfjhnfidbkdpaa.fnExactRunTries
open Go.ChangeShapes Go.WideShapes Go.ChangeAt Go.RowKit Go.Joins
open Go.ChangeMaps (open_string shut_string)
set_option linter.unusedVariables false

theorem own : ownKnob Try.prog.godebug = none := by kernel_rfl
theorem laidOut : laidOutB Try.prog = true := by kernel_rfl

set_option maxRecDepth 100000 in
set_option maxHeartbeats 4000000 in
theorem walk (l0 : List TryT) (a0 : Option Addr) (len0 cap0 : Nat) (w : World) (hs0 : SlTry w a0 len0 l0) (hok0 : ∀ q ∈ l0, TryT.Ok q) (hl0 : len0 ≤ maxLen) :
    Calls Try.prog 4 #[.slice a0 len0 cap0] w fun e w' => e = .returned (.bool true) ∧ Below w.heap.size w w' := by
  have HS0 := hide hs0
  have HO0 := hide hok0
  have HL0 := hide hl0
  have hll0 := hide hs0.1
  clear hs0 hok0 hl0
  go_enter Try.func4, Try.ntmps4
  go_wp2_with fail
  refine (szTryS_any a0 len0 cap0 l0 _ _ (by omega) (by omega) (unhide HL0) (unhide HS0) (unhide HO0)).mono ?_
  rintro e w1 ⟨⟨m0, hma0, hmb0, hmc0, rfl⟩, hb⟩
  have B2 := hide (hb)
  clear hb
  by_cases hm0 : m0 < 0
  · go_wp2_with fail
    go_ret
    exact ⟨rfl, unhide B2⟩
  have g0 : len0 ≤ 1048576 := by omega
  clear hmc0
  go_wp2_with fail
  refine (toTryS_own a0 len0 cap0 l0 _ g0 ((unhide HS0).keep (unhide B2))).mono ?_
  rintro e w3 ⟨rfl, ⟨Ct0, Rt0, zt0, rwt0⟩, hb⟩
  obtain ⟨bt0, ebt0⟩ : ∃ b, b = w1.heap.size := ⟨_, rfl⟩
  rw [← ebt0] at Rt0 rwt0
  rw [← ebt0]
  have St0 := hide (show SlTry w3 (some ⟨bt0, 0, none⟩) len0 l0 from ⟨unhide hll0, .inr ⟨_, 0, rfl, rwt0⟩⟩)
  clear Rt0 zt0
  have B4 := hide (bTr (unhide B2) hb)
  clear B2
  clear hb rwt0 ebt0
  go_wp2_with fail
  refine (sRunTries_any _ len0 _ l0 _ (unhide HL0) (unhide St0) (unhide HO0)).mono ?_
  rintro e w5 ⟨⟨vw0, rw0, rfl, hpw, how0⟩, hb⟩
  replace St0 := hide ((unhide St0).keep hb)
  have Ow0 := hide how0
  have low0 := hide (fun g hg => (how0.lt g hg).1)
  have hiw0 := hide (fun g hg => (how0.lt g hg).2)
  have PW := hide hpw
  have LW := hide hpw.len
  have B6 := hide (bTr (unhide B4) hb)
  clear B4
  have BW := hide (unhide B6).size
  clear hb hpw how0
  clear St0
  go_wp2_with fail
  refine (toTryS_own a0 len0 cap0 l0 _ g0 ((unhide HS0).keep (unhide B6))).mono ?_
  rintro e w7 ⟨rfl, ⟨Cx0, Rx0, zx0, rwx0⟩, hb⟩
  obtain ⟨bx0, ebx0⟩ : ∃ b, b = w5.heap.size := ⟨_, rfl⟩
  rw [← ebx0] at Rx0 rwx0
  rw [← ebx0]
  have LX0 := hide (show w5.heap.size ≤ bx0 by rw [ebx0]; exact Nat.le_refl _)
  have ZW0 := hide (show w5.heap.size ≤ w7.heap.size from hb.size)
  replace Ow0 := hide (own_keep (unhide Ow0) hb)
  have Sx0 := hide (show SlTry w7 (some ⟨bx0, 0, none⟩) len0 l0 from ⟨unhide hll0, .inr ⟨_, 0, rfl, rwx0⟩⟩)
  have RX0 := hide Rx0
  have ZX0 := hide (show len0 * 2 ≤ Cx0.size by omega)
  clear Rx0 zx0
  have B8 := hide (bTr (unhide B6) hb)
  clear B6
  clear hb rwx0 ebx0
  have BG := hide (unhide B8).size
  have LT0 := hide (show bx0 < w7.heap.size from (unhide RX0).lt)
  have WG := hide (show w5.heap.size ≤ w7.heap.size by have h1 := unhide LX0; have h2 := unhide LT0; omega)
  go_wp2_with fail
  refine (iRunTries_any _ len0 _ l0 _ (unhide HL0) (unhide Sx0) (unhide HO0)).mono ?_
  rintro e w9 ⟨⟨vg0, rg0, rfl, hpg, hog0⟩, hb⟩
  replace Ow0 := hide (own_keep (unhide Ow0) hb)
  replace Sx0 := hide ((unhide Sx0).keep hb)
  replace RX0 := hide ((unhide RX0).keep hb)
  have Og0 := hide hog0
  have log0 := hide (fun g hg => (hog0.lt g hg).1)
  have hig0 := hide (fun g hg => (hog0.lt g hg).2)
  obtain rfl := hpg.uniq (unhide PW)
  have B10 := hide (bTr (unhide B8) hb)
  clear B8
  clear hb hpg hog0
  go_wp2_with fail
  refine (eqOwnInt (unhide Og0) (unhide Ow0) (by have := unhide LW; omega)).mono ?_
  rintro e w11 ⟨rfl, hb⟩
  replace Ow0 := hide (own_keep (unhide Ow0) hb)
  replace Sx0 := hide ((unhide Sx0).keep hb)
  replace RX0 := hide ((unhide RX0).keep hb)
  replace Og0 := hide (own_keep (unhide Og0) hb)
  have B12 := hide (bTr (unhide B10) hb)
  clear B10
  clear hb
  go_wp2_with fail
  refine (toTryS_own a0 len0 cap0 l0 _ g0 ((unhide HS0).keep (unhide B12))).mono ?_
  rintro e w13 ⟨rfl, ⟨Cy, Ry, zy, rwy⟩, hb⟩
  replace Ow0 := hide (own_keep (unhide Ow0) hb)
  replace Sx0 := hide ((unhide Sx0).keep hb)
  replace RX0 := hide ((unhide RX0).keep hb)
  replace Og0 := hide (own_keep (unhide Og0) hb)
  have SY := hide (show SlTry w13 (some ⟨w11.heap.size, 0, none⟩) len0 l0 from ⟨unhide hll0, .inr ⟨_, 0, rfl, rwy⟩⟩)
  have B14 := hide (bTr (unhide B12) hb)
  clear B12
  clear hb Ry zy rwy
  go_wp2_with fail
  refine (eqTryS_same _ _ len0 _ len0 _ l0 _ (unhide Sx0) (unhide SY) (unhide HL0)).mono ?_
  rintro e w15 ⟨rfl, hb⟩
  replace Ow0 := hide (own_keep (unhide Ow0) hb)
  replace Sx0 := hide ((unhide Sx0).keep hb)
  replace RX0 := hide ((unhide RX0).keep hb)
  replace Og0 := hide (own_keep (unhide Og0) hb)
  have B16 := hide (bTr (unhide B14) hb)
  clear B14
  clear hb SY
  clear Sx0
  have qk := hide (markTry_row bx0 len0 len0 1 Cx0 _ g0 (by omega) (by omega) (unhide ZX0) (unhide RX0))
  obtain ⟨T0, eT0⟩ : ∃ T, T = 1 + len0 * 2 := ⟨_, rfl⟩
  rw [← eT0] at qk
  have hT0 : 1 ≤ T0 ∧ T0 ≤ 20000000 := by omega
  clear eT0
  go_wp2_with fail
  refine (unhide qk).mono ?_
  rintro e w17 ⟨rfl, _, hg⟩
  clear qk
  clear RX0 ZX0
  replace Ow0 := hide ((unhide Ow0).kept hg (.inr (fun e => by have h1 := unhide hiw0 _ e; have h2 := unhide LX0; omega)))
  replace Og0 := hide ((unhide Og0).kept hg (.inr (fun e => by have h1 := unhide log0 _ e; have h2 := unhide LT0; omega)))
  have B18 := hide ((unhide B16).grown hg (by have := (unhide B16).size; omega) (fun k h => by cases h; have := unhide LX0; have := unhide BW; omega))
  clear hg B16
  have tk : ¬ (T0 : Int) < 0 := by omega
  go_wp2_with fail
  refine (eqOwnInt (unhide Og0) (unhide Ow0) (by have := unhide LW; omega)).mono ?_
  rintro e w19 ⟨rfl, hb⟩
  replace Ow0 := hide (own_keep (unhide Ow0) hb)
  replace Og0 := hide (own_keep (unhide Og0) hb)
  have B20 := hide (bTr (unhide B18) hb)
  clear B18
  clear hb
  have qm := hide (markInt_own vg0 rg0.length 1 _ _ _ (by have := unhide LW; omega) (by omega) (by have := unhide LW; omega) (unhide Og0))
  obtain ⟨M0, eM0⟩ : ∃ M, M = 1 + rg0.length := ⟨_, rfl⟩
  rw [← eM0] at qm
  have hM0 : 1 ≤ M0 ∧ M0 ≤ 20000000 := by have := unhide LW; omega
  have EM0 := hide eM0
  clear eM0
  go_wp2_with fail
  refine (unhide qm).mono ?_
  rintro e w21 ⟨rfl, hM, hg⟩
  clear qm
  replace Ow0 := hide ((unhide Ow0).kept hg (own_ne (fun g e => unhide hiw0 g e) (fun g e => unhide log0 g e) (unhide WG)))
  have MG0 := hide hM
  clear Og0 hM
  have B22 := hide ((unhide B20).grown hg (by have := (unhide B20).size; omega) (fun k h => by have h1 := unhide log0 k h; have := unhide BG; omega))
  clear hg B20
  have qh := hide (heldInt_own vg0 rg0.length 1 _ (by have := unhide LW; omega) (by omega) (by have := unhide LW; omega) (unhide MG0))
  rw [← unhide EM0] at qh
  go_wp2_with fail
  refine (unhide qh).mono ?_
  rintro e w23 ⟨rfl, hb⟩
  clear qh
  replace Ow0 := hide (own_keep (unhide Ow0) hb)
  replace MG0 := hide ((unhide MG0).keep hb)
  have B24 := hide (bTr (unhide B22) hb)
  clear B22
  clear hb
  have th0 : ¬ (M0 : Int) < 0 := by omega
  have tm : ((M0 : Int) != (M0 : Int)) = false := by simp
  go_wp2_with fail
  refine (toTryS_own a0 len0 cap0 l0 _ g0 ((unhide HS0).keep (unhide B24))).mono ?_
  rintro e w25 ⟨rfl, ⟨Cu0, Ru0, zu0, rwu0⟩, hb⟩
  obtain ⟨bu0, ebu0⟩ : ∃ b, b = w23.heap.size := ⟨_, rfl⟩
  rw [← ebu0] at Ru0 rwu0
  rw [← ebu0]
  replace Ow0 := hide (own_keep (unhide Ow0) hb)
  replace MG0 := hide ((unhide MG0).keep hb)
  have Su0 := hide (show SlTry w25 (some ⟨bu0, 0, none⟩) len0 l0 from ⟨unhide hll0, .inr ⟨_, 0, rfl, rwu0⟩⟩)
  clear Ru0 zu0
  have B26 := hide (bTr (unhide B24) hb)
  clear B24
  clear hb rwu0 ebu0
  go_wp2_with fail
  refine (iRunTries_any _ len0 _ l0 _ (unhide HL0) (unhide Su0) (unhide HO0)).mono ?_
  rintro e w27 ⟨⟨vh0, rh0, rfl, hph, hoh0⟩, hb⟩
  replace Ow0 := hide (own_keep (unhide Ow0) hb)
  replace MG0 := hide ((unhide MG0).keep hb)
  replace Su0 := hide ((unhide Su0).keep hb)
  have Oh0 := hide hoh0
  have loh0 := hide (fun g hg => (hoh0.lt g hg).1)
  have hih0 := hide (fun g hg => (hoh0.lt g hg).2)
  obtain rfl := (unhide PW).uniq hph
  have B28 := hide (bTr (unhide B26) hb)
  clear B26
  clear hb hph hoh0
  clear Su0
  go_wp2_with fail
  refine (eqOwnInt (unhide Oh0) (unhide Ow0) (by have := unhide LW; omega)).mono ?_
  rintro e w29 ⟨rfl, hb⟩
  replace Ow0 := hide (own_keep (unhide Ow0) hb)
  replace MG0 := hide ((unhide MG0).keep hb)
  replace Oh0 := hide (own_keep (unhide Oh0) hb)
  have B30 := hide (bTr (unhide B28) hb)
  clear B28
  clear hb
  have qh := hide (heldInt_own vg0 rg0.length 1 _ (by have := unhide LW; omega) (by omega) (by have := unhide LW; omega) (unhide MG0))
  rw [← unhide EM0] at qh
  go_wp2_with fail
  refine (unhide qh).mono ?_
  rintro e w31 ⟨rfl, hb⟩
  clear qh
  replace Ow0 := hide (own_keep (unhide Ow0) hb)
  replace MG0 := hide ((unhide MG0).keep hb)
  have B32 := hide (bTr (unhide B30) hb)
  clear B30
  clear hb
  go_wp2_with fail
  go_ret
  exact ⟨rfl, unhide B32⟩

set_option maxRecDepth 100000 in
theorem lifted (os : Os) (started : os.Started) (H : Type) (enc : TypeId × Value → H) :
    ReturnsInHanded {} Try.checked os 4 .any (Rows.fnExactRunTriesSpec.pre6 enc Try.prog Try.f4 Rows.fnExactRunTriesRow.domain false) (Rows.fnExactRunTriesSpec.post enc Try.prog Try.f4 false true false false) := by
  refine returnsInHanded_of_change (C := Try.checked) own started (by kernel_rfl) Try.func4
    (ChangeSpec.witness6 (enc := enc) (C := Try.checked) false ⟨#[], #[.slice none 0 0], []⟩ 8 (by kernel_rfl) (by kernel_rfl) (by kernel_rfl) (by kernel_rfl)) ?_
  intro W base args ds gs before hval0 hW hcnd _
  have hval : ∀ (j : Nat) t v, Try.f4.params[j]? = some t → args[j]? = some v → Value.okWide Try.prog W .any base t v := hval0
  have hW' := hW
  obtain ⟨p, q, hA0, hV, rfl, hfz, hnd⟩ := hW
  have hA : DataW.TrodAll enc Try.prog W 0 (fun _ => true) true Try.f4.params.toList args.toList ds p := hA0
  rw [Try.params4] at hA hval
  obtain ⟨v0, vs0, d0, ds0, p0, q0, hargs, rfl, rfl, h0, r0⟩ := trodAll_cons hA
  obtain ⟨rfl, rfl, rfl⟩ := trodAll_nil r0
  obtain rfl : args = #[v0] := by cases args; simp_all
  obtain ⟨rfl, rfl⟩ := trodVars_none hV
  have k0 := h0
  have lt0 : ∀ x ∈ p0, x.block < W.heap.size := by obtain ⟨m, hm⟩ := k0; exact DataW.trod_lt m _ _ _ hm
  obtain ⟨l0, a0, len0, cap0, e0, s0, o0, m0⟩ := read_Trys (hval 0 30 v0 rfl rfl) h0
  subst e0
  clear hA0 hval0
  refine (walk l0 a0 len0 cap0 W s0 o0 m0).mono fun e W' ⟨he, bel⟩ => ?_
  subst he
  exact ⟨_, rfl, _, _, _, [], _, [], hW', trodAll_mk1 (shut_bool Try.underlying4 _), (trodAll_cons_mk (Below.trod laidOut (by kernel_rfl) (of_decide_eq_true (by kernel_rfl)) k0 bel lt0) trodAll_mk0), rfl, bel.frame _, fun h => by cases h⟩

theorem over : Rows.fnExactRunTriesRow.holds Try.pinned (OpenSpec.ofChange Rows.fnExactRunTriesSpec) :=
  OpenClaim.holds_of_wide 4 Try.f4 rfl rfl rfl rfl rfl rfl rfl ⟨rfl, rfl, rfl, rfl, rfl⟩ rfl rfl rfl rfl rfl (by kernel_rfl) Try.func4 (by kernel_rfl)
    (of_decide_eq_true (by kernel_rfl)) (by unfold Func.isWrapper; rw [if_neg (by decide +kernel)]; exact ⟨rfl, rfl⟩)
    (fun os started H enc _ => lifted os started H enc)
end Go.Proofs.Ytdfjhnfidbkdpaa.fnExactRunTries
namespace Go.Proofs.Ytdfjhnfidbkdpaa
theorem fnExactRunTries_holds : Rows.FnExactRunTriesSaid := fnExactRunTries.over
end Go.Proofs.Ytdfjhnfidbkdpaa
