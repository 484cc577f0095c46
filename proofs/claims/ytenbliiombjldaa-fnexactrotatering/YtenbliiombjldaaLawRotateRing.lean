/- The row of laws.FnExactRotateRing: its walk, then the row's step. -/
import Derived.Test.YtenbliiombjldaaRows
import Derived.Test.YtenbliiombjldaaKOl
import Derived.WalkKit
import Derived.ProofKit
import Derived.OpenShut
import Derived.ShutString
import Derived.ChangeOld
import Derived.Below
import Derived.Lib.SmallJoins
import Derived.Deep.RegionHeld3
namespace Go.Proofs.Ytenbliiombjldaa.fnExactRotateRing
open Go.ChangeShapes Go.WideShapes Go.ChangeAt Go.RowKit Go.Joins
open Go.ChangeMaps (open_string shut_string)
set_option linter.unusedVariables false

theorem own : ownKnob Try.prog.godebug = none := by kernel_rfl
theorem laidOut : laidOutB Try.prog = true := by kernel_rfl

set_option maxRecDepth 100000 in
set_option maxHeartbeats 4000000 in
theorem walk0 (l0 : List KeyT) (a0 : Option Addr) (len0 cap0 : Nat) (f1_0 : ByteArray) (f1_1 : Int) (f1_2 : Int) (f1_3 : Int) (x2 : Int) (x3 : Int) (w : World) (hs0 : SlKey w a0 len0 l0) (hok0 : ∀ q ∈ l0, KeyT.Ok q) (hl0 : len0 ≤ maxLen) (hf1_0 : f1_0.size ≤ maxLen) :
    Calls Try.prog 3 #[.slice a0 len0 cap0, .agg #[.string f1_0, .int .i64 f1_1, .int .i64 f1_2, .int .i64 f1_3], .int .i64 x2, .int .i64 x3] w fun e w' => e = .returned (.bool true) ∧ Below w.heap.size w w' := by
  have HS0 := hide hs0
  have HO0 := hide hok0
  have HL0 := hide hl0
  have hll0 := hide hs0.1
  clear hs0 hok0 hl0
  have HF1_0 := hide hf1_0
  clear hf1_0
  obtain ⟨W, hW⟩ : ∃ W, W = w.alloc (.cells #[.string f1_0, .int .i64 f1_1, .int .i64 f1_2, .int .i64 f1_3] 24) := ⟨_, rfl⟩
  have RB1 := hide (show RowIs W w.heap.size #[.string f1_0, .int .i64 f1_1, .int .i64 f1_2, .int .i64 f1_3] 24 by rw [hW]; exact RowIs.new _ _ _)
  have B0 := hide (show Below w.heap.size w W by rw [hW]; exact bAl (Below.refl _ _) _)
  have HW := hide hW.symm
  clear hW
  go_enter Try.func3, Try.ntmps3
  go_wp2_with fail
  rw [unhide HW]
  refine (szKeyS_any a0 len0 cap0 l0 _ _ (by omega) (by omega) (unhide HL0) ((unhide HS0).keep (unhide B0)) (unhide HO0)).mono ?_
  rintro e w1 ⟨⟨m0, hma0, hmb0, hmc0, rfl⟩, hb⟩
  replace RB1 := hide ((unhide RB1).keep hb)
  have B2 := hide (bTr (unhide B0) hb)
  clear B0
  clear hb
  by_cases hm0 : m0 < 0
  · go_wp2_with fail
    go_ret
    exact ⟨rfl, unhide B2⟩
  have g0 : len0 ≤ 1048576 := by omega
  clear hmc0
  have y0 := (unhide RB1).at (o := 0) (v := .string f1_0) rfl
  have y1 := (unhide RB1).at (o := 1) (v := .int .i64 f1_1) rfl
  have y2 := (unhide RB1).at (o := 2) (v := .int .i64 f1_2) rfl
  have y3 := (unhide RB1).at (o := 3) (v := .int .i64 f1_3) rfl
  have zy := (unhide RB1).lt
  go_wp2_with fail
  clear y0 y1 y2 y3 zy
  refine (szKey_any f1_0 f1_1 f1_2 f1_3 _ _ (by omega) (by omega) (unhide HF1_0)).mono ?_
  rintro e w3 ⟨⟨m1, hma1, hmb1, rfl⟩, hb⟩
  replace RB1 := hide ((unhide RB1).keep hb)
  have B4 := hide (bTr (unhide B2) hb)
  clear B2
  clear hb
  by_cases hm1 : m1 < 0
  · go_wp2_with fail
    go_ret
    exact ⟨rfl, unhide B4⟩
  go_wp2_with fail
  have RS := RB1
  replace RB1 := hide ((unhide RB1).keep (Below.refl _ _).drew)
  have B5 := hide (unhide B4).drew
  clear B4
  go_region_held3 (fun w' => w'.cell? ⟨w.heap.size, 0, none⟩ = some (.string f1_0) ∧ w'.cell? ⟨w.heap.size, 1, none⟩ = some (.int .i64 f1_1) ∧ w'.cell? ⟨w.heap.size, 2, none⟩ = some (.int .i64 f1_2) ∧ w'.cell? ⟨w.heap.size, 3, none⟩ = some (.int .i64 f1_3))
    (first
      | exact ⟨(unhide RB1).at (o := 0) (v := .string f1_0) rfl, (unhide RB1).at (o := 1) (v := .int .i64 f1_1) rfl, (unhide RB1).at (o := 2) (v := .int .i64 f1_2) rfl, (unhide RB1).at (o := 3) (v := .int .i64 f1_3) rfl⟩
      | exact ⟨(unhide RS).at (o := 0) (v := .string f1_0) rfl, (unhide RS).at (o := 1) (v := .int .i64 f1_1) rfl, (unhide RS).at (o := 2) (v := .int .i64 f1_2) rfl, (unhide RS).at (o := 3) (v := .int .i64 f1_3) rfl⟩)
    (first
      | (go_at_call 7; refine (toKeyS_own a0 len0 cap0 l0 _ g0 ((unhide HS0).keep (unhide B5))).mono ?_; rintro e w6 ⟨rfl, ⟨Ct0, Rt0, zt0, rwt0⟩, hb⟩; obtain ⟨bt0, ebt0⟩ : ∃ b, b = w3.drew.heap.size := ⟨_, rfl⟩; rw [← ebt0] at Rt0 rwt0; rw [← ebt0]; replace RB1 := hide ((unhide RB1).keep hb); have St0 := hide (show SlKey w6 (some ⟨bt0, 0, none⟩) len0 l0 from ⟨unhide hll0, .inr ⟨_, 0, rfl, rwt0⟩⟩); clear Rt0 zt0; have B7 := hide (bTr (unhide B5) hb); clear B5; clear hb rwt0 ebt0)
      | (go_at_call 8; refine (toKey_any f1_0 f1_1 f1_2 f1_3 _).mono ?_; rintro e w8 ⟨rfl, hb⟩; replace RB1 := hide ((unhide RB1).keep hb); replace St0 := hide ((unhide St0).keep hb); have B9 := hide (bTr (unhide B7) hb); clear B7; clear hb)
      | (go_at_call 6; refine (sRot_any _ len0 _ l0 f1_0 f1_1 f1_2 f1_3 x2 x3 _ (unhide HL0) (unhide St0) (unhide HO0) (unhide HF1_0)).mono ?_; rintro e w10 ⟨⟨vw0, rw0, rfl, hpw, how0⟩, hb⟩; replace RB1 := hide ((unhide RB1).keep hb); replace St0 := hide ((unhide St0).keep hb); have Ow0 := hide how0; have low0 := hide (fun g hg => (how0.lt g hg).1); have hiw0 := hide (fun g hg => (how0.lt g hg).2)))
  clear RS
  have PW := hide hpw
  have LW := hide hpw.len
  have B11 := hide (bTr (unhide B9) hb)
  clear B9
  have BN := hide (unhide RB1).lt
  have BW := hide (unhide B11).size
  clear hb hpw how0
  clear St0
  go_wp2_with fail
  refine (toKeyS_own a0 len0 cap0 l0 _ g0 ((unhide HS0).keep (unhide B11))).mono ?_
  rintro e w12 ⟨rfl, ⟨Cx0, Rx0, zx0, rwx0⟩, hb⟩
  obtain ⟨bx0, ebx0⟩ : ∃ b, b = w10.heap.size := ⟨_, rfl⟩
  rw [← ebx0] at Rx0 rwx0
  rw [← ebx0]
  have LX0 := hide (show w10.heap.size ≤ bx0 by rw [ebx0]; exact Nat.le_refl _)
  have ZW0 := hide (show w10.heap.size ≤ w12.heap.size from hb.size)
  replace RB1 := hide ((unhide RB1).keep hb)
  replace Ow0 := hide (own_keep (unhide Ow0) hb)
  have Sx0 := hide (show SlKey w12 (some ⟨bx0, 0, none⟩) len0 l0 from ⟨unhide hll0, .inr ⟨_, 0, rfl, rwx0⟩⟩)
  have RX0 := hide Rx0
  have ZX0 := hide (show len0 * 4 ≤ Cx0.size by omega)
  clear Rx0 zx0
  have B13 := hide (bTr (unhide B11) hb)
  clear B11
  clear hb rwx0 ebx0
  have y0 := (unhide RB1).at (o := 0) (v := .string f1_0) rfl
  have y1 := (unhide RB1).at (o := 1) (v := .int .i64 f1_1) rfl
  have y2 := (unhide RB1).at (o := 2) (v := .int .i64 f1_2) rfl
  have y3 := (unhide RB1).at (o := 3) (v := .int .i64 f1_3) rfl
  have zy := (unhide RB1).lt
  go_wp2_with fail
  clear y0 y1 y2 y3 zy
  refine (toKey_any f1_0 f1_1 f1_2 f1_3 _).mono ?_
  rintro e w14 ⟨rfl, hb⟩
  replace RB1 := hide ((unhide RB1).keep hb)
  replace Ow0 := hide (own_keep (unhide Ow0) hb)
  replace Sx0 := hide ((unhide Sx0).keep hb)
  replace RX0 := hide ((unhide RX0).keep hb)
  have B15 := hide (bTr (unhide B13) hb)
  clear B13
  clear hb
  have BG := hide (unhide B15).size
  have LT0 := hide (show bx0 < w14.heap.size from (unhide RX0).lt)
  have WG := hide (show w10.heap.size ≤ w14.heap.size by have h1 := unhide LX0; have h2 := unhide LT0; omega)
  go_wp2_with fail
  refine (iRot_any _ len0 _ l0 f1_0 f1_1 f1_2 f1_3 x2 x3 _ (unhide HL0) (unhide Sx0) (unhide HO0) (unhide HF1_0)).mono ?_
  rintro e w16 ⟨⟨vg0, rg0, rfl, hpg, hog0⟩, hb⟩
  replace RB1 := hide ((unhide RB1).keep hb)
  replace Ow0 := hide (own_keep (unhide Ow0) hb)
  replace Sx0 := hide ((unhide Sx0).keep hb)
  replace RX0 := hide ((unhide RX0).keep hb)
  have Og0 := hide hog0
  have log0 := hide (fun g hg => (hog0.lt g hg).1)
  have hig0 := hide (fun g hg => (hog0.lt g hg).2)
  obtain rfl := hpg.uniq (unhide PW)
  have B17 := hide (bTr (unhide B15) hb)
  clear B15
  clear hb hpg hog0
  go_wp2_with fail
  refine (eqOwnKey (unhide Og0) (unhide Ow0) (by have := unhide LW; omega)).mono ?_
  rintro e w18 ⟨rfl, hb⟩
  replace RB1 := hide ((unhide RB1).keep hb)
  replace Ow0 := hide (own_keep (unhide Ow0) hb)
  replace Sx0 := hide ((unhide Sx0).keep hb)
  replace RX0 := hide ((unhide RX0).keep hb)
  replace Og0 := hide (own_keep (unhide Og0) hb)
  have B19 := hide (bTr (unhide B17) hb)
  clear B17
  clear hb
  go_wp2_with fail
  refine (toKeyS_own a0 len0 cap0 l0 _ g0 ((unhide HS0).keep (unhide B19))).mono ?_
  rintro e w20 ⟨rfl, ⟨Cy, Ry, zy, rwy⟩, hb⟩
  replace RB1 := hide ((unhide RB1).keep hb)
  replace Ow0 := hide (own_keep (unhide Ow0) hb)
  replace Sx0 := hide ((unhide Sx0).keep hb)
  replace RX0 := hide ((unhide RX0).keep hb)
  replace Og0 := hide (own_keep (unhide Og0) hb)
  have SY := hide (show SlKey w20 (some ⟨w18.heap.size, 0, none⟩) len0 l0 from ⟨unhide hll0, .inr ⟨_, 0, rfl, rwy⟩⟩)
  have B21 := hide (bTr (unhide B19) hb)
  clear B19
  clear hb Ry zy rwy
  go_wp2_with fail
  refine (eqKeyS_same _ _ len0 _ len0 _ l0 _ (unhide Sx0) (unhide SY) (unhide HL0)).mono ?_
  rintro e w22 ⟨rfl, hb⟩
  replace RB1 := hide ((unhide RB1).keep hb)
  replace Ow0 := hide (own_keep (unhide Ow0) hb)
  replace Sx0 := hide ((unhide Sx0).keep hb)
  replace RX0 := hide ((unhide RX0).keep hb)
  replace Og0 := hide (own_keep (unhide Og0) hb)
  have B23 := hide (bTr (unhide B21) hb)
  clear B21
  clear hb SY
  clear Sx0
  have qk := hide (markKey_row bx0 len0 len0 1 Cx0 _ g0 (by omega) (by omega) (unhide ZX0) (unhide RX0))
  obtain ⟨T0, eT0⟩ : ∃ T, T = 1 + len0 * 4 := ⟨_, rfl⟩
  rw [← eT0] at qk
  have hT0 : 1 ≤ T0 ∧ T0 ≤ 20000000 := by omega
  clear eT0
  go_wp2_with fail
  refine (unhide qk).mono ?_
  rintro e w24 ⟨rfl, _, hg⟩
  clear qk
  clear RX0 ZX0
  replace Ow0 := hide ((unhide Ow0).kept hg (.inr (fun e => by have h1 := unhide hiw0 _ e; have h2 := unhide LX0; omega)))
  replace Og0 := hide ((unhide Og0).kept hg (.inr (fun e => by have h1 := unhide log0 _ e; have h2 := unhide LT0; omega)))
  replace RB1 := hide (row_grown (unhide RB1) hg (by have h1 := unhide LX0; have h2 := unhide BN; intro e; simp at e; omega))
  have B25 := hide ((unhide B23).grown hg (by have := (unhide B23).size; omega) (fun k h => by cases h; have := unhide LX0; have := unhide BW; omega))
  clear hg B23
  have tk : ¬ (T0 : Int) < 0 := by omega
  go_wp2_with fail
  refine (eqOwnKey (unhide Og0) (unhide Ow0) (by have := unhide LW; omega)).mono ?_
  rintro e w26 ⟨rfl, hb⟩
  replace RB1 := hide ((unhide RB1).keep hb)
  replace Ow0 := hide (own_keep (unhide Ow0) hb)
  replace Og0 := hide (own_keep (unhide Og0) hb)
  have B27 := hide (bTr (unhide B25) hb)
  clear B25
  clear hb
  have qm := hide (markKey_own vg0 rg0.length 1 _ _ _ (by have := unhide LW; omega) (by omega) (by have := unhide LW; omega) (unhide Og0))
  obtain ⟨M0, eM0⟩ : ∃ M, M = 1 + rg0.length * 4 := ⟨_, rfl⟩
  rw [← eM0] at qm
  have hM0 : 1 ≤ M0 ∧ M0 ≤ 20000000 := by have := unhide LW; omega
  have EM0 := hide eM0
  clear eM0
  go_wp2_with fail
  refine (unhide qm).mono ?_
  rintro e w28 ⟨rfl, hM, hg⟩
  clear qm
  replace Ow0 := hide ((unhide Ow0).kept hg (own_ne (fun g e => unhide hiw0 g e) (fun g e => unhide log0 g e) (unhide WG)))
  replace RB1 := hide (row_grown (unhide RB1) hg (by intro e; have h1 := unhide log0 _ e.symm; have h2 := unhide BN; have h3 := unhide WG; omega))
  have MG0 := hide hM
  clear Og0 hM
  have B29 := hide ((unhide B27).grown hg (by have := (unhide B27).size; omega) (fun k h => by have h1 := unhide log0 k h; have := unhide BG; omega))
  clear hg B27
  have qh := hide (heldKey_own vg0 rg0.length 1 _ (by have := unhide LW; omega) (by omega) (by have := unhide LW; omega) (unhide MG0))
  rw [← unhide EM0] at qh
  go_wp2_with fail
  refine (unhide qh).mono ?_
  rintro e w30 ⟨rfl, hb⟩
  clear qh
  replace RB1 := hide ((unhide RB1).keep hb)
  replace Ow0 := hide (own_keep (unhide Ow0) hb)
  replace MG0 := hide ((unhide MG0).keep hb)
  have B31 := hide (bTr (unhide B29) hb)
  clear B29
  clear hb
  have th0 : ¬ (M0 : Int) < 0 := by omega
  have tm : ((M0 : Int) != (M0 : Int)) = false := by simp
  go_wp2_with fail
  have RS := RB1
  replace RB1 := hide ((unhide RB1).keep (Below.refl _ _).drew)
  replace Ow0 := hide (own_keep (unhide Ow0) (Below.refl _ _).drew)
  replace MG0 := hide ((unhide MG0).keep (Below.refl _ _).drew)
  have B32 := hide (unhide B31).drew
  clear B31
  go_region_held3 (fun w' => w'.cell? ⟨w.heap.size, 0, none⟩ = some (.string f1_0) ∧ w'.cell? ⟨w.heap.size, 1, none⟩ = some (.int .i64 f1_1) ∧ w'.cell? ⟨w.heap.size, 2, none⟩ = some (.int .i64 f1_2) ∧ w'.cell? ⟨w.heap.size, 3, none⟩ = some (.int .i64 f1_3))
    (first
      | exact ⟨(unhide RB1).at (o := 0) (v := .string f1_0) rfl, (unhide RB1).at (o := 1) (v := .int .i64 f1_1) rfl, (unhide RB1).at (o := 2) (v := .int .i64 f1_2) rfl, (unhide RB1).at (o := 3) (v := .int .i64 f1_3) rfl⟩
      | exact ⟨(unhide RS).at (o := 0) (v := .string f1_0) rfl, (unhide RS).at (o := 1) (v := .int .i64 f1_1) rfl, (unhide RS).at (o := 2) (v := .int .i64 f1_2) rfl, (unhide RS).at (o := 3) (v := .int .i64 f1_3) rfl⟩)
    (first
      | (go_at_call 7; refine (toKeyS_own a0 len0 cap0 l0 _ g0 ((unhide HS0).keep (unhide B32))).mono ?_; rintro e w33 ⟨rfl, ⟨Cu0, Ru0, zu0, rwu0⟩, hb⟩; obtain ⟨bu0, ebu0⟩ : ∃ b, b = w30.drew.heap.size := ⟨_, rfl⟩; rw [← ebu0] at Ru0 rwu0; rw [← ebu0]; replace RB1 := hide ((unhide RB1).keep hb); replace Ow0 := hide (own_keep (unhide Ow0) hb); replace MG0 := hide ((unhide MG0).keep hb); have Su0 := hide (show SlKey w33 (some ⟨bu0, 0, none⟩) len0 l0 from ⟨unhide hll0, .inr ⟨_, 0, rfl, rwu0⟩⟩); clear Ru0 zu0; have B34 := hide (bTr (unhide B32) hb); clear B32; clear hb rwu0 ebu0)
      | (go_at_call 8; refine (toKey_any f1_0 f1_1 f1_2 f1_3 _).mono ?_; rintro e w35 ⟨rfl, hb⟩; replace RB1 := hide ((unhide RB1).keep hb); replace Ow0 := hide (own_keep (unhide Ow0) hb); replace MG0 := hide ((unhide MG0).keep hb); replace Su0 := hide ((unhide Su0).keep hb); have B36 := hide (bTr (unhide B34) hb); clear B34; clear hb)
      | (go_at_call 9; refine (iRot_any _ len0 _ l0 f1_0 f1_1 f1_2 f1_3 x2 x3 _ (unhide HL0) (unhide Su0) (unhide HO0) (unhide HF1_0)).mono ?_; rintro e w37 ⟨⟨vh0, rh0, rfl, hph, hoh0⟩, hb⟩; replace RB1 := hide ((unhide RB1).keep hb); replace Ow0 := hide (own_keep (unhide Ow0) hb); replace MG0 := hide ((unhide MG0).keep hb); replace Su0 := hide ((unhide Su0).keep hb); have Oh0 := hide hoh0; have loh0 := hide (fun g hg => (hoh0.lt g hg).1); have hih0 := hide (fun g hg => (hoh0.lt g hg).2)))
  clear RS
  obtain rfl := (unhide PW).uniq hph
  have B38 := hide (bTr (unhide B36) hb)
  clear B36
  clear hb hph hoh0
  clear Su0
  go_wp2_with fail
  refine (eqOwnKey (unhide Oh0) (unhide Ow0) (by have := unhide LW; omega)).mono ?_
  rintro e w39 ⟨rfl, hb⟩
  replace RB1 := hide ((unhide RB1).keep hb)
  replace Ow0 := hide (own_keep (unhide Ow0) hb)
  replace MG0 := hide ((unhide MG0).keep hb)
  replace Oh0 := hide (own_keep (unhide Oh0) hb)
  have B40 := hide (bTr (unhide B38) hb)
  clear B38
  clear hb
  have qh := hide (heldKey_own vg0 rg0.length 1 _ (by have := unhide LW; omega) (by omega) (by have := unhide LW; omega) (unhide MG0))
  rw [← unhide EM0] at qh
  go_wp2_with fail
  refine (unhide qh).mono ?_
  rintro e w41 ⟨rfl, hb⟩
  clear qh
  replace RB1 := hide ((unhide RB1).keep hb)
  replace Ow0 := hide (own_keep (unhide Ow0) hb)
  replace MG0 := hide ((unhide MG0).keep hb)
  have B42 := hide (bTr (unhide B40) hb)
  clear B40
  clear hb
  go_wp2_with fail
  go_ret
  exact ⟨rfl, unhide B42⟩
theorem walk (l0 : List KeyT) (a0 : Option Addr) (len0 cap0 : Nat) (n : KeyT) (x2 x3 : Int) (w : World) (hs0 : SlKey w a0 len0 l0) (hok0 : ∀ q ∈ l0, KeyT.Ok q) (hl0 : len0 ≤ maxLen) (hn : n.Ok) :
    Calls Try.prog 3 #[.slice a0 len0 cap0, .agg #[.string n.f0, .int .i64 n.f1, .int .i64 n.f2, .int .i64 n.f3], .int .i64 x2, .int .i64 x3] w fun e w' => e = .returned (.bool true) ∧ Below w.heap.size w w' :=
  walk0 l0 a0 len0 cap0 n.f0 n.f1 n.f2 n.f3 x2 x3 w hs0 hok0 hl0 hn.o0

set_option maxRecDepth 100000 in
theorem lifted (os : Os) (started : os.Started) (H : Type) (enc : TypeId × Value → H) :
    ReturnsInHanded {} Try.checked os 3 .any (Rows.fnExactRotateRingSpec.pre6 enc Try.prog Try.f3 Rows.fnExactRotateRingRow.domain false) (Rows.fnExactRotateRingSpec.post enc Try.prog Try.f3 false true false false) := by
  refine returnsInHanded_of_change (C := Try.checked) own started (by kernel_rfl) Try.func3
    (ChangeSpec.witness6 (enc := enc) (C := Try.checked) false ⟨#[], #[.slice none 0 0, .agg #[.string ByteArray.empty, .int .i64 0, .int .i64 0, .int .i64 0], .int .i64 0, .int .i64 0], []⟩ 8 (by kernel_rfl) (by kernel_rfl) (by kernel_rfl) (by kernel_rfl)) ?_
  intro W base args ds gs before hval0 hW hcnd _
  have hval : ∀ (j : Nat) t v, Try.f3.params[j]? = some t → args[j]? = some v → Value.okWide Try.prog W .any base t v := hval0
  have hW' := hW
  obtain ⟨p, q, hA0, hV, rfl, hfz, hnd⟩ := hW
  have hA : DataW.TrodAll enc Try.prog W 0 (fun _ => true) true Try.f3.params.toList args.toList ds p := hA0
  rw [Try.params3] at hA hval
  obtain ⟨v0, vs0, d0, ds0, p0, q0, hargs, rfl, rfl, h0, r0⟩ := trodAll_cons hA
  obtain ⟨v1, vs1, d1, ds1, p1, q1, rfl, rfl, rfl, h1, r1⟩ := trodAll_cons r0
  obtain ⟨v2, vs2, d2, ds2, p2, q2, rfl, rfl, rfl, h2, r2⟩ := trodAll_cons r1
  obtain ⟨v3, vs3, d3, ds3, p3, q3, rfl, rfl, rfl, h3, r3⟩ := trodAll_cons r2
  obtain ⟨rfl, rfl, rfl⟩ := trodAll_nil r3
  obtain rfl : args = #[v0, v1, v2, v3] := by cases args; simp_all
  obtain ⟨rfl, rfl⟩ := trodVars_none hV
  have k0 := h0
  have lt0 : ∀ x ∈ p0, x.block < W.heap.size := by obtain ⟨m, hm⟩ := k0; exact DataW.trod_lt m _ _ _ hm
  obtain ⟨l0, a0, len0, cap0, e0, s0, o0, m0⟩ := read_Keys (hval 0 22 v0 rfl rfl) h0
  subst e0
  have k1 := h1
  have lt1 : ∀ x ∈ p1, x.block < W.heap.size := by obtain ⟨m, hm⟩ := k1; exact DataW.trod_lt m _ _ _ hm
  obtain ⟨c1, e1, o1⟩ := readv_Key (hval 1 24 v1 rfl rfl) h1
  subst e1
  obtain ⟨a2, rfl, rfl, rfl, w2⟩ := open_int Try.underlying3 (hval 2 3 v2 rfl rfl) h2
  obtain ⟨a3, rfl, rfl, rfl, w3⟩ := open_int Try.underlying3 (hval 3 3 v3 rfl rfl) h3
  clear hA0 hval0
  refine (walk l0 a0 len0 cap0 c1 a2 a3 W s0 o0 m0 o1).mono fun e W' ⟨he, bel⟩ => ?_
  subst he
  exact ⟨_, rfl, _, _, _, [], _, [], hW', trodAll_mk1 (shut_bool Try.underlying4 _), (trodAll_cons_mk (Below.trod laidOut (by kernel_rfl) (of_decide_eq_true (by kernel_rfl)) k0 bel lt0) (trodAll_cons_mk (Below.trod laidOut (by kernel_rfl) (of_decide_eq_true (by kernel_rfl)) k1 bel lt1) (trodAll_cons_mk (shut_int Try.underlying3 w2) (trodAll_cons_mk (shut_int Try.underlying3 w3) trodAll_mk0)))), rfl, bel.frame _, fun h => by cases h⟩

theorem over : Rows.fnExactRotateRingRow.holds Try.pinned (OpenSpec.ofChange Rows.fnExactRotateRingSpec) :=
  OpenClaim.holds_of_wide 3 Try.f3 rfl rfl rfl rfl rfl rfl rfl ⟨rfl, rfl, rfl, rfl, rfl⟩ rfl rfl rfl rfl rfl (by kernel_rfl) Try.func3 (by kernel_rfl)
    (of_decide_eq_true (by kernel_rfl)) (by unfold Func.isWrapper; rw [if_neg (by decide +kernel)]; exact ⟨rfl, rfl⟩)
    (fun os started H enc _ => lifted os started H enc)
end Go.Proofs.Ytenbliiombjldaa.fnExactRotateRing
namespace Go.Proofs.Ytenbliiombjldaa
theorem fnExactRotateRing_holds : Rows.FnExactRotateRingSaid := fnExactRotateRing.over
end Go.Proofs.Ytenbliiombjldaa
