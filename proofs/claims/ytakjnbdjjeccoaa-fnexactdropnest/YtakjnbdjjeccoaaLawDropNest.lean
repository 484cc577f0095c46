/- The row of laws.FnExactDropNest: its walk, then the row's step. -/
import Derived.Test.YtakjnbdjjeccoaaRows
import Derived.Test.YtakjnbdjjeccoaaGLaA
import Derived.WalkKit
import Derived.ProofKit
import Derived.OpenShut
import Derived.ShutString
import Derived.ChangeOld
import Derived.Below
import Derived.Lib.SmallJoins
import Derived.Deep.RegionHeld3
namespace Go.Proofs.Ytakjnbdjjeccoaa.fnExactDropNest
open Go.ChangeShapes Go.WideShapes Go.ChangeAt Go.RowKit Go.Joins
open Go.ChangeMaps (open_string shut_string)
set_option linter.unusedVariables false

theorem own : ownKnob Try.prog.godebug = none := by kernel_rfl
theorem laidOut : laidOutB Try.prog = true := by kernel_rfl

set_option maxRecDepth 100000 in
set_option maxHeartbeats 4000000 in
theorem walk (l0 : List NestT) (a0 : Option Addr) (len0 cap0 : Nat) (l1 : List ReachT) (a1 : Option Addr) (len1 cap1 : Nat) (f2 g2 : ByteArray) (w : World) (hs0 : SlNest w a0 len0 l0) (hok0 : ∀ q ∈ l0, NestT.Ok q) (hl0 : len0 ≤ maxLen) (hs1 : SlReach w a1 len1 l1) (hok1 : ∀ q ∈ l1, ReachT.Ok q) (hl1 : len1 ≤ maxLen) (hf2 : f2.size ≤ maxLen) (hg2 : g2.size ≤ maxLen) :
    Calls Try.prog 6 #[.slice a0 len0 cap0, .slice a1 len1 cap1, .agg #[.string f2, .string g2]] w fun e w' => e = .returned (.bool true) ∧ Below w.heap.size w w' := by
  have HS0 := hide hs0
  have HO0 := hide hok0
  have HL0 := hide hl0
  have hll0 := hide hs0.1
  clear hs0 hok0 hl0
  have HS1 := hide hs1
  have HO1 := hide hok1
  have HL1 := hide hl1
  have hll1 := hide hs1.1
  clear hs1 hok1 hl1
  have HF2 := hide hf2
  have HG2 := hide hg2
  clear hf2 hg2
  obtain ⟨W, hW⟩ : ∃ W, W = w.alloc (.cells #[.string f2, .string g2] 36) := ⟨_, rfl⟩
  have RB2 := hide (show RowIs W w.heap.size #[.string f2, .string g2] 36 by rw [hW]; exact RowIs.new _ _ _)
  have B0 := hide (show Below w.heap.size w W by rw [hW]; exact bAl (Below.refl _ _) _)
  have HW := hide hW.symm
  clear hW
  go_enter Try.func6, Try.ntmps6
  go_wp2_with fail
  rw [unhide HW]
  refine (szNestS_any a0 len0 cap0 l0 _ _ (by omega) (by omega) (unhide HL0) ((unhide HS0).keep (unhide B0)) (unhide HO0)).mono ?_
  rintro e w1 ⟨⟨m0, hma0, hmb0, hmc0, rfl⟩, hb⟩
  replace RB2 := hide ((unhide RB2).keep hb)
  have B2 := hide (bTr (unhide B0) hb)
  clear B0
  clear hb
  by_cases hm0 : m0 < 0
  · go_wp2_with fail
    go_ret
    exact ⟨rfl, unhide B2⟩
  have g0 : len0 ≤ 1048576 := by omega
  clear hmc0
  go_wp2_with fail
  refine (szReachS_any a1 len1 cap1 l1 _ _ (by omega) (by omega) (unhide HL1) ((unhide HS1).keep (unhide B2)) (unhide HO1)).mono ?_
  rintro e w3 ⟨⟨m1, hma1, hmb1, hmc1, rfl⟩, hb⟩
  replace RB2 := hide ((unhide RB2).keep hb)
  have B4 := hide (bTr (unhide B2) hb)
  clear B2
  clear hb
  by_cases hm1 : m1 < 0
  · go_wp2_with fail
    go_ret
    exact ⟨rfl, unhide B4⟩
  have g1 : len1 ≤ 1048576 := by omega
  clear hmc1
  have y0 := (unhide RB2).at (o := 0) (v := .string f2) rfl
  have y1 := (unhide RB2).at (o := 1) (v := .string g2) rfl
  have zy := (unhide RB2).lt
  go_wp2_with fail
  clear y0 y1 zy
  refine (szNest_any f2 g2 _ _ (by omega) (by omega) (unhide HF2) (unhide HG2)).mono ?_
  rintro e w5 ⟨⟨m2, hma2, hmb2, rfl⟩, hb⟩
  replace RB2 := hide ((unhide RB2).keep hb)
  have B6 := hide (bTr (unhide B4) hb)
  clear B4
  clear hb
  by_cases hm2 : m2 < 0
  · go_wp2_with fail
    go_ret
    exact ⟨rfl, unhide B6⟩
  go_wp2_with fail
  have RS := RB2
  replace RB2 := hide ((unhide RB2).keep (Below.refl _ _).drew)
  have B7 := hide (unhide B6).drew
  clear B6
  go_region_held3 (fun w' => w'.cell? ⟨w.heap.size, 0, none⟩ = some (.string f2) ∧ w'.cell? ⟨w.heap.size, 1, none⟩ = some (.string g2))
    (first
      | exact ⟨(unhide RB2).at (o := 0) (v := .string f2) rfl, (unhide RB2).at (o := 1) (v := .string g2) rfl⟩
      | exact ⟨(unhide RS).at (o := 0) (v := .string f2) rfl, (unhide RS).at (o := 1) (v := .string g2) rfl⟩)
    (first
      | (go_at_call 13; refine (toNestS_own a0 len0 cap0 l0 _ g0 ((unhide HS0).keep (unhide B7))).mono ?_; rintro e w8 ⟨rfl, ⟨Ct0, Rt0, zt0, rwt0⟩, hb⟩; obtain ⟨bt0, ebt0⟩ : ∃ b, b = w5.drew.heap.size := ⟨_, rfl⟩; rw [← ebt0] at Rt0 rwt0; rw [← ebt0]; replace RB2 := hide ((unhide RB2).keep hb); have St0 := hide (show SlNest w8 (some ⟨bt0, 0, none⟩) len0 l0 from ⟨unhide hll0, .inr ⟨_, 0, rfl, rwt0⟩⟩); clear Rt0 zt0; have B9 := hide (bTr (unhide B7) hb); clear B7; clear hb rwt0 ebt0)
      | (go_at_call 25; refine (toReachS_own a1 len1 cap1 l1 _ g1 ((unhide HS1).keep (unhide B9))).mono ?_; rintro e w10 ⟨rfl, ⟨Ct1, Rt1, zt1, rwt1⟩, hb⟩; obtain ⟨bt1, ebt1⟩ : ∃ b, b = w8.heap.size := ⟨_, rfl⟩; rw [← ebt1] at Rt1 rwt1; rw [← ebt1]; replace RB2 := hide ((unhide RB2).keep hb); replace St0 := hide ((unhide St0).keep hb); have St1 := hide (show SlReach w10 (some ⟨bt1, 0, none⟩) len1 l1 from ⟨unhide hll1, .inr ⟨_, 0, rfl, rwt1⟩⟩); clear Rt1 zt1; have B11 := hide (bTr (unhide B9) hb); clear B9; clear hb rwt1 ebt1)
      | (go_at_call 26; refine (toNest_any f2 g2 _).mono ?_; rintro e w12 ⟨rfl, hb⟩; replace RB2 := hide ((unhide RB2).keep hb); replace St0 := hide ((unhide St0).keep hb); replace St1 := hide ((unhide St1).keep hb); have B13 := hide (bTr (unhide B11) hb); clear B11; clear hb)
      | (go_at_call 29; refine (sDropNest_law _ len0 _ l0 _ len1 _ l1 f2 g2 _ (unhide HL0) (unhide St0) (unhide HO0) (unhide HL1) (unhide St1) (unhide HO1) (unhide HF2) (unhide HG2)).mono ?_; rintro e w14 ⟨⟨vw0, vw1, rw0, rw1, rfl, hpw, how0, how1, hdjw⟩, hb⟩; replace RB2 := hide ((unhide RB2).keep hb); replace St0 := hide ((unhide St0).keep hb); replace St1 := hide ((unhide St1).keep hb); have Ow0 := hide how0; have low0 := hide (fun g hg => (how0.lt g hg).1); have hiw0 := hide (fun g hg => (how0.lt g hg).2); have Ow1 := hide how1; have low1 := hide (fun g hg => (how1.lt g hg).1); have hiw1 := hide (fun g hg => (how1.lt g hg).2)))
  clear RS
  have PW := hide hpw
  have LW := hide hpw.len
  have B15 := hide (bTr (unhide B13) hb)
  clear B13
  have BN := hide (unhide RB2).lt
  have BW := hide (unhide B15).size
  clear hb hpw how0 how1 hdjw
  clear St0
  clear St1
  go_wp2_with fail
  refine (toNestS_own a0 len0 cap0 l0 _ g0 ((unhide HS0).keep (unhide B15))).mono ?_
  rintro e w16 ⟨rfl, ⟨Cx0, Rx0, zx0, rwx0⟩, hb⟩
  obtain ⟨bx0, ebx0⟩ : ∃ b, b = w14.heap.size := ⟨_, rfl⟩
  rw [← ebx0] at Rx0 rwx0
  rw [← ebx0]
  have LX0 := hide (show w14.heap.size ≤ bx0 by rw [ebx0]; exact Nat.le_refl _)
  have ZW0 := hide (show w14.heap.size ≤ w16.heap.size from hb.size)
  replace RB2 := hide ((unhide RB2).keep hb)
  replace Ow0 := hide (own_keep (unhide Ow0) hb)
  replace Ow1 := hide (own_keep (unhide Ow1) hb)
  have Sx0 := hide (show SlNest w16 (some ⟨bx0, 0, none⟩) len0 l0 from ⟨unhide hll0, .inr ⟨_, 0, rfl, rwx0⟩⟩)
  have RX0 := hide Rx0
  have ZX0 := hide (show len0 * 2 ≤ Cx0.size by omega)
  clear Rx0 zx0
  have B17 := hide (bTr (unhide B15) hb)
  clear B15
  clear hb rwx0 ebx0
  go_wp2_with fail
  refine (toReachS_own a1 len1 cap1 l1 _ g1 ((unhide HS1).keep (unhide B17))).mono ?_
  rintro e w18 ⟨rfl, ⟨Cx1, Rx1, zx1, rwx1⟩, hb⟩
  obtain ⟨bx1, ebx1⟩ : ∃ b, b = w16.heap.size := ⟨_, rfl⟩
  rw [← ebx1] at Rx1 rwx1
  rw [← ebx1]
  have NX01 := hide (show bx0 < bx1 by rw [ebx1]; exact (unhide RX0).lt)
  have LX1 := hide (show w14.heap.size ≤ bx1 by rw [ebx1]; exact unhide ZW0)
  have ZW1 := hide (show w14.heap.size ≤ w18.heap.size from Nat.le_trans (unhide ZW0) hb.size)
  replace RB2 := hide ((unhide RB2).keep hb)
  replace Ow0 := hide (own_keep (unhide Ow0) hb)
  replace Ow1 := hide (own_keep (unhide Ow1) hb)
  replace Sx0 := hide ((unhide Sx0).keep hb)
  replace RX0 := hide ((unhide RX0).keep hb)
  have Sx1 := hide (show SlReach w18 (some ⟨bx1, 0, none⟩) len1 l1 from ⟨unhide hll1, .inr ⟨_, 0, rfl, rwx1⟩⟩)
  have RX1 := hide Rx1
  have ZX1 := hide (show len1 * 3 ≤ Cx1.size by omega)
  clear Rx1 zx1
  have B19 := hide (bTr (unhide B17) hb)
  clear B17
  clear hb rwx1 ebx1
  have y0 := (unhide RB2).at (o := 0) (v := .string f2) rfl
  have y1 := (unhide RB2).at (o := 1) (v := .string g2) rfl
  have zy := (unhide RB2).lt
  go_wp2_with fail
  clear y0 y1 zy
  refine (toNest_any f2 g2 _).mono ?_
  rintro e w20 ⟨rfl, hb⟩
  replace RB2 := hide ((unhide RB2).keep hb)
  replace Ow0 := hide (own_keep (unhide Ow0) hb)
  replace Ow1 := hide (own_keep (unhide Ow1) hb)
  replace Sx0 := hide ((unhide Sx0).keep hb)
  replace RX0 := hide ((unhide RX0).keep hb)
  replace Sx1 := hide ((unhide Sx1).keep hb)
  replace RX1 := hide ((unhide RX1).keep hb)
  have B21 := hide (bTr (unhide B19) hb)
  clear B19
  clear hb
  have BG := hide (unhide B21).size
  have LT0 := hide (show bx0 < w20.heap.size from (unhide RX0).lt)
  have LT1 := hide (show bx1 < w20.heap.size from (unhide RX1).lt)
  have WG := hide (show w14.heap.size ≤ w20.heap.size by have h1 := unhide LX0; have h2 := unhide LT0; omega)
  go_wp2_with fail
  refine (iDropNest_law _ len0 _ l0 _ len1 _ l1 f2 g2 _ (unhide HL0) (unhide Sx0) (unhide HO0) (unhide HL1) (unhide Sx1) (unhide HO1) (unhide HF2) (unhide HG2)).mono ?_
  rintro e w22 ⟨⟨vg0, vg1, rg0, rg1, rfl, hpg, hog0, hog1, hdjg⟩, hb⟩
  replace RB2 := hide ((unhide RB2).keep hb)
  replace Ow0 := hide (own_keep (unhide Ow0) hb)
  replace Ow1 := hide (own_keep (unhide Ow1) hb)
  replace Sx0 := hide ((unhide Sx0).keep hb)
  replace RX0 := hide ((unhide RX0).keep hb)
  replace Sx1 := hide ((unhide Sx1).keep hb)
  replace RX1 := hide ((unhide RX1).keep hb)
  have Og0 := hide hog0
  have log0 := hide (fun g hg => (hog0.lt g hg).1)
  have hig0 := hide (fun g hg => (hog0.lt g hg).2)
  have Og1 := hide hog1
  have log1 := hide (fun g hg => (hog1.lt g hg).1)
  have hig1 := hide (fun g hg => (hog1.lt g hg).2)
  obtain ⟨rfl, rfl⟩ := hpg.uniq (unhide PW)
  have NE01 := hide hdjg.ne
  have NE01b := hide hdjg.ne'
  clear hdjg
  have B23 := hide (bTr (unhide B21) hb)
  clear B21
  clear hb hpg hog0 hog1
  go_wp2_with fail
  refine (eqOwnNest (unhide Og0) (unhide Ow0) (by have := unhide LW; omega)).mono ?_
  rintro e w24 ⟨rfl, hb⟩
  replace RB2 := hide ((unhide RB2).keep hb)
  replace Ow0 := hide (own_keep (unhide Ow0) hb)
  replace Ow1 := hide (own_keep (unhide Ow1) hb)
  replace Sx0 := hide ((unhide Sx0).keep hb)
  replace RX0 := hide ((unhide RX0).keep hb)
  replace Sx1 := hide ((unhide Sx1).keep hb)
  replace RX1 := hide ((unhide RX1).keep hb)
  replace Og0 := hide (own_keep (unhide Og0) hb)
  replace Og1 := hide (own_keep (unhide Og1) hb)
  have B25 := hide (bTr (unhide B23) hb)
  clear B23
  clear hb
  go_wp2_with fail
  refine (eqOwnReach (unhide Og1) (unhide Ow1) (by have := unhide LW; omega)).mono ?_
  rintro e w26 ⟨rfl, hb⟩
  replace RB2 := hide ((unhide RB2).keep hb)
  replace Ow0 := hide (own_keep (unhide Ow0) hb)
  replace Ow1 := hide (own_keep (unhide Ow1) hb)
  replace Sx0 := hide ((unhide Sx0).keep hb)
  replace RX0 := hide ((unhide RX0).keep hb)
  replace Sx1 := hide ((unhide Sx1).keep hb)
  replace RX1 := hide ((unhide RX1).keep hb)
  replace Og0 := hide (own_keep (unhide Og0) hb)
  replace Og1 := hide (own_keep (unhide Og1) hb)
  have B27 := hide (bTr (unhide B25) hb)
  clear B25
  clear hb
  go_wp2_with fail
  refine (toNestS_own a0 len0 cap0 l0 _ g0 ((unhide HS0).keep (unhide B27))).mono ?_
  rintro e w28 ⟨rfl, ⟨Cy, Ry, zy, rwy⟩, hb⟩
  replace RB2 := hide ((unhide RB2).keep hb)
  replace Ow0 := hide (own_keep (unhide Ow0) hb)
  replace Ow1 := hide (own_keep (unhide Ow1) hb)
  replace Sx0 := hide ((unhide Sx0).keep hb)
  replace RX0 := hide ((unhide RX0).keep hb)
  replace Sx1 := hide ((unhide Sx1).keep hb)
  replace RX1 := hide ((unhide RX1).keep hb)
  replace Og0 := hide (own_keep (unhide Og0) hb)
  replace Og1 := hide (own_keep (unhide Og1) hb)
  have SY := hide (show SlNest w28 (some ⟨w26.heap.size, 0, none⟩) len0 l0 from ⟨unhide hll0, .inr ⟨_, 0, rfl, rwy⟩⟩)
  have B29 := hide (bTr (unhide B27) hb)
  clear B27
  clear hb Ry zy rwy
  go_wp2_with fail
  refine (eqNestS_same _ _ len0 _ len0 _ l0 _ (unhide Sx0) (unhide SY) (unhide HL0)).mono ?_
  rintro e w30 ⟨rfl, hb⟩
  replace RB2 := hide ((unhide RB2).keep hb)
  replace Ow0 := hide (own_keep (unhide Ow0) hb)
  replace Ow1 := hide (own_keep (unhide Ow1) hb)
  replace Sx0 := hide ((unhide Sx0).keep hb)
  replace RX0 := hide ((unhide RX0).keep hb)
  replace Sx1 := hide ((unhide Sx1).keep hb)
  replace RX1 := hide ((unhide RX1).keep hb)
  replace Og0 := hide (own_keep (unhide Og0) hb)
  replace Og1 := hide (own_keep (unhide Og1) hb)
  have B31 := hide (bTr (unhide B29) hb)
  clear B29
  clear hb SY
  go_wp2_with fail
  refine (toReachS_own a1 len1 cap1 l1 _ g1 ((unhide HS1).keep (unhide B31))).mono ?_
  rintro e w32 ⟨rfl, ⟨Cy, Ry, zy, rwy⟩, hb⟩
  replace RB2 := hide ((unhide RB2).keep hb)
  replace Ow0 := hide (own_keep (unhide Ow0) hb)
  replace Ow1 := hide (own_keep (unhide Ow1) hb)
  replace Sx0 := hide ((unhide Sx0).keep hb)
  replace RX0 := hide ((unhide RX0).keep hb)
  replace Sx1 := hide ((unhide Sx1).keep hb)
  replace RX1 := hide ((unhide RX1).keep hb)
  replace Og0 := hide (own_keep (unhide Og0) hb)
  replace Og1 := hide (own_keep (unhide Og1) hb)
  have SY := hide (show SlReach w32 (some ⟨w30.heap.size, 0, none⟩) len1 l1 from ⟨unhide hll1, .inr ⟨_, 0, rfl, rwy⟩⟩)
  have B33 := hide (bTr (unhide B31) hb)
  clear B31
  clear hb Ry zy rwy
  go_wp2_with fail
  refine (eqReachS_same _ _ len1 _ len1 _ l1 _ (unhide Sx1) (unhide SY) (unhide HL1)).mono ?_
  rintro e w34 ⟨rfl, hb⟩
  replace RB2 := hide ((unhide RB2).keep hb)
  replace Ow0 := hide (own_keep (unhide Ow0) hb)
  replace Ow1 := hide (own_keep (unhide Ow1) hb)
  replace Sx0 := hide ((unhide Sx0).keep hb)
  replace RX0 := hide ((unhide RX0).keep hb)
  replace Sx1 := hide ((unhide Sx1).keep hb)
  replace RX1 := hide ((unhide RX1).keep hb)
  replace Og0 := hide (own_keep (unhide Og0) hb)
  replace Og1 := hide (own_keep (unhide Og1) hb)
  have B35 := hide (bTr (unhide B33) hb)
  clear B33
  clear hb SY
  clear Sx0
  clear Sx1
  have qk := hide (markNest_row bx0 len0 len0 1 Cx0 _ g0 (by omega) (by omega) (unhide ZX0) (unhide RX0))
  obtain ⟨T0, eT0⟩ : ∃ T, T = 1 + len0 * 2 := ⟨_, rfl⟩
  rw [← eT0] at qk
  have hT0 : 1 ≤ T0 ∧ T0 ≤ 20000000 := by omega
  clear eT0
  go_wp2_with fail
  refine (unhide qk).mono ?_
  rintro e w36 ⟨rfl, _, hg⟩
  clear qk
  clear RX0 ZX0
  replace Ow0 := hide ((unhide Ow0).kept hg (.inr (fun e => by have h1 := unhide hiw0 _ e; have h2 := unhide LX0; omega)))
  replace Og0 := hide ((unhide Og0).kept hg (.inr (fun e => by have h1 := unhide log0 _ e; have h2 := unhide LT0; omega)))
  replace Ow1 := hide ((unhide Ow1).kept hg (.inr (fun e => by have h1 := unhide hiw1 _ e; have h2 := unhide LX0; omega)))
  replace Og1 := hide ((unhide Og1).kept hg (.inr (fun e => by have h1 := unhide log1 _ e; have h2 := unhide LT0; omega)))
  replace RB2 := hide (row_grown (unhide RB2) hg (by have h1 := unhide LX0; have h2 := unhide BN; intro e; simp at e; omega))
  replace RX1 := hide (row_grown (unhide RX1) hg (by have := unhide NX01; intro e; simp at e; omega))
  have B37 := hide ((unhide B35).grown hg (by have := (unhide B35).size; omega) (fun k h => by cases h; have := unhide LX0; have := unhide BW; omega))
  clear hg B35
  have qk := hide (markReach_row bx1 len1 len1 T0 Cx1 _ g1 (by omega) (by omega) (unhide ZX1) (unhide RX1))
  obtain ⟨T1, eT1⟩ : ∃ T, T = T0 + len1 * 3 := ⟨_, rfl⟩
  rw [← eT1] at qk
  have hT1 : 1 ≤ T1 ∧ T1 ≤ 40000000 := by omega
  clear eT1
  go_wp2_with fail
  refine (unhide qk).mono ?_
  rintro e w38 ⟨rfl, _, hg⟩
  clear qk
  clear RX1 ZX1
  replace Ow0 := hide ((unhide Ow0).kept hg (.inr (fun e => by have h1 := unhide hiw0 _ e; have h2 := unhide LX1; omega)))
  replace Og0 := hide ((unhide Og0).kept hg (.inr (fun e => by have h1 := unhide log0 _ e; have h2 := unhide LT1; omega)))
  replace Ow1 := hide ((unhide Ow1).kept hg (.inr (fun e => by have h1 := unhide hiw1 _ e; have h2 := unhide LX1; omega)))
  replace Og1 := hide ((unhide Og1).kept hg (.inr (fun e => by have h1 := unhide log1 _ e; have h2 := unhide LT1; omega)))
  replace RB2 := hide (row_grown (unhide RB2) hg (by have h1 := unhide LX1; have h2 := unhide BN; intro e; simp at e; omega))
  have B39 := hide ((unhide B37).grown hg (by have := (unhide B37).size; omega) (fun k h => by cases h; have := unhide LX1; have := unhide BW; omega))
  clear hg B37
  have tk : ¬ (T1 : Int) < 0 := by omega
  go_wp2_with fail
  refine (eqOwnNest (unhide Og0) (unhide Ow0) (by have := unhide LW; omega)).mono ?_
  rintro e w40 ⟨rfl, hb⟩
  replace RB2 := hide ((unhide RB2).keep hb)
  replace Ow0 := hide (own_keep (unhide Ow0) hb)
  replace Ow1 := hide (own_keep (unhide Ow1) hb)
  replace Og0 := hide (own_keep (unhide Og0) hb)
  replace Og1 := hide (own_keep (unhide Og1) hb)
  have B41 := hide (bTr (unhide B39) hb)
  clear B39
  clear hb
  go_wp2_with fail
  refine (eqOwnReach (unhide Og1) (unhide Ow1) (by have := unhide LW; omega)).mono ?_
  rintro e w42 ⟨rfl, hb⟩
  replace RB2 := hide ((unhide RB2).keep hb)
  replace Ow0 := hide (own_keep (unhide Ow0) hb)
  replace Ow1 := hide (own_keep (unhide Ow1) hb)
  replace Og0 := hide (own_keep (unhide Og0) hb)
  replace Og1 := hide (own_keep (unhide Og1) hb)
  have B43 := hide (bTr (unhide B41) hb)
  clear B41
  clear hb
  have qm := hide (markNest_own vg0 rg0.length 1 _ _ _ (by have := unhide LW; omega) (by omega) (by have := unhide LW; omega) (unhide Og0))
  obtain ⟨M0, eM0⟩ : ∃ M, M = 1 + rg0.length * 2 := ⟨_, rfl⟩
  rw [← eM0] at qm
  have hM0 : 1 ≤ M0 ∧ M0 ≤ 20000000 := by have := unhide LW; omega
  have EM0 := hide eM0
  clear eM0
  go_wp2_with fail
  refine (unhide qm).mono ?_
  rintro e w44 ⟨rfl, hM, hg⟩
  clear qm
  replace Ow0 := hide ((unhide Ow0).kept hg (own_ne (fun g e => unhide hiw0 g e) (fun g e => unhide log0 g e) (unhide WG)))
  replace Ow1 := hide ((unhide Ow1).kept hg (own_ne (fun g e => unhide hiw1 g e) (fun g e => unhide log0 g e) (unhide WG)))
  replace RB2 := hide (row_grown (unhide RB2) hg (by intro e; have h1 := unhide log0 _ e.symm; have h2 := unhide BN; have h3 := unhide WG; omega))
  replace Og1 := hide ((unhide Og1).kept hg (unhide NE01))
  have MG0 := hide hM
  clear Og0 hM
  have B45 := hide ((unhide B43).grown hg (by have := (unhide B43).size; omega) (fun k h => by have h1 := unhide log0 k h; have := unhide BG; omega))
  clear hg B43
  have qm := hide (markReach_own vg1 rg1.length M0 _ _ _ (by have := unhide LW; omega) (by omega) (by have := unhide LW; omega) (unhide Og1))
  obtain ⟨M1, eM1⟩ : ∃ M, M = M0 + rg1.length * 3 := ⟨_, rfl⟩
  rw [← eM1] at qm
  have hM1 : 1 ≤ M1 ∧ M1 ≤ 40000000 := by have := unhide LW; omega
  have EM1 := hide eM1
  clear eM1
  go_wp2_with fail
  refine (unhide qm).mono ?_
  rintro e w46 ⟨rfl, hM, hg⟩
  clear qm
  replace Ow0 := hide ((unhide Ow0).kept hg (own_ne (fun g e => unhide hiw0 g e) (fun g e => unhide log1 g e) (unhide WG)))
  replace Ow1 := hide ((unhide Ow1).kept hg (own_ne (fun g e => unhide hiw1 g e) (fun g e => unhide log1 g e) (unhide WG)))
  replace RB2 := hide (row_grown (unhide RB2) hg (by intro e; have h1 := unhide log1 _ e.symm; have h2 := unhide BN; have h3 := unhide WG; omega))
  replace MG0 := hide (marks_grownNest (unhide MG0) hg (unhide NE01b))
  have MG1 := hide hM
  clear Og1 hM
  have B47 := hide ((unhide B45).grown hg (by have := (unhide B45).size; omega) (fun k h => by have h1 := unhide log1 k h; have := unhide BG; omega))
  clear hg B45
  have qh := hide (heldNest_own vg0 rg0.length 1 _ (by have := unhide LW; omega) (by omega) (by have := unhide LW; omega) (unhide MG0))
  rw [← unhide EM0] at qh
  go_wp2_with fail
  refine (unhide qh).mono ?_
  rintro e w48 ⟨rfl, hb⟩
  clear qh
  replace RB2 := hide ((unhide RB2).keep hb)
  replace Ow0 := hide (own_keep (unhide Ow0) hb)
  replace Ow1 := hide (own_keep (unhide Ow1) hb)
  replace MG0 := hide ((unhide MG0).keep hb)
  replace MG1 := hide ((unhide MG1).keep hb)
  have B49 := hide (bTr (unhide B47) hb)
  clear B47
  clear hb
  have th0 : ¬ (M0 : Int) < 0 := by omega
  have qh := hide (heldReach_own vg1 rg1.length M0 _ (by have := unhide LW; omega) (by omega) (by have := unhide LW; omega) (unhide MG1))
  rw [← unhide EM1] at qh
  go_wp2_with fail
  refine (unhide qh).mono ?_
  rintro e w50 ⟨rfl, hb⟩
  clear qh
  replace RB2 := hide ((unhide RB2).keep hb)
  replace Ow0 := hide (own_keep (unhide Ow0) hb)
  replace Ow1 := hide (own_keep (unhide Ow1) hb)
  replace MG0 := hide ((unhide MG0).keep hb)
  replace MG1 := hide ((unhide MG1).keep hb)
  have B51 := hide (bTr (unhide B49) hb)
  clear B49
  clear hb
  have th1 : ¬ (M1 : Int) < 0 := by omega
  have tm : ((M1 : Int) != (M1 : Int)) = false := by simp
  go_wp2_with fail
  have RS := RB2
  replace RB2 := hide ((unhide RB2).keep (Below.refl _ _).drew)
  replace Ow0 := hide (own_keep (unhide Ow0) (Below.refl _ _).drew)
  replace Ow1 := hide (own_keep (unhide Ow1) (Below.refl _ _).drew)
  replace MG0 := hide ((unhide MG0).keep (Below.refl _ _).drew)
  replace MG1 := hide ((unhide MG1).keep (Below.refl _ _).drew)
  have B52 := hide (unhide B51).drew
  clear B51
  go_region_held3 (fun w' => w'.cell? ⟨w.heap.size, 0, none⟩ = some (.string f2) ∧ w'.cell? ⟨w.heap.size, 1, none⟩ = some (.string g2))
    (first
      | exact ⟨(unhide RB2).at (o := 0) (v := .string f2) rfl, (unhide RB2).at (o := 1) (v := .string g2) rfl⟩
      | exact ⟨(unhide RS).at (o := 0) (v := .string f2) rfl, (unhide RS).at (o := 1) (v := .string g2) rfl⟩)
    (first
      | (go_at_call 13; refine (toNestS_own a0 len0 cap0 l0 _ g0 ((unhide HS0).keep (unhide B52))).mono ?_; rintro e w53 ⟨rfl, ⟨Cu0, Ru0, zu0, rwu0⟩, hb⟩; obtain ⟨bu0, ebu0⟩ : ∃ b, b = w50.drew.heap.size := ⟨_, rfl⟩; rw [← ebu0] at Ru0 rwu0; rw [← ebu0]; replace RB2 := hide ((unhide RB2).keep hb); replace Ow0 := hide (own_keep (unhide Ow0) hb); replace Ow1 := hide (own_keep (unhide Ow1) hb); replace MG0 := hide ((unhide MG0).keep hb); replace MG1 := hide ((unhide MG1).keep hb); have Su0 := hide (show SlNest w53 (some ⟨bu0, 0, none⟩) len0 l0 from ⟨unhide hll0, .inr ⟨_, 0, rfl, rwu0⟩⟩); clear Ru0 zu0; have B54 := hide (bTr (unhide B52) hb); clear B52; clear hb rwu0 ebu0)
      | (go_at_call 25; refine (toReachS_own a1 len1 cap1 l1 _ g1 ((unhide HS1).keep (unhide B54))).mono ?_; rintro e w55 ⟨rfl, ⟨Cu1, Ru1, zu1, rwu1⟩, hb⟩; obtain ⟨bu1, ebu1⟩ : ∃ b, b = w53.heap.size := ⟨_, rfl⟩; rw [← ebu1] at Ru1 rwu1; rw [← ebu1]; replace RB2 := hide ((unhide RB2).keep hb); replace Ow0 := hide (own_keep (unhide Ow0) hb); replace Ow1 := hide (own_keep (unhide Ow1) hb); replace MG0 := hide ((unhide MG0).keep hb); replace MG1 := hide ((unhide MG1).keep hb); replace Su0 := hide ((unhide Su0).keep hb); have Su1 := hide (show SlReach w55 (some ⟨bu1, 0, none⟩) len1 l1 from ⟨unhide hll1, .inr ⟨_, 0, rfl, rwu1⟩⟩); clear Ru1 zu1; have B56 := hide (bTr (unhide B54) hb); clear B54; clear hb rwu1 ebu1)
      | (go_at_call 26; refine (toNest_any f2 g2 _).mono ?_; rintro e w57 ⟨rfl, hb⟩; replace RB2 := hide ((unhide RB2).keep hb); replace Ow0 := hide (own_keep (unhide Ow0) hb); replace Ow1 := hide (own_keep (unhide Ow1) hb); replace MG0 := hide ((unhide MG0).keep hb); replace MG1 := hide ((unhide MG1).keep hb); replace Su0 := hide ((unhide Su0).keep hb); replace Su1 := hide ((unhide Su1).keep hb); have B58 := hide (bTr (unhide B56) hb); clear B56; clear hb)
      | (go_at_call 30; refine (iDropNest_law _ len0 _ l0 _ len1 _ l1 f2 g2 _ (unhide HL0) (unhide Su0) (unhide HO0) (unhide HL1) (unhide Su1) (unhide HO1) (unhide HF2) (unhide HG2)).mono ?_; rintro e w59 ⟨⟨vh0, vh1, rh0, rh1, rfl, hph, hoh0, hoh1, hdjh⟩, hb⟩; replace RB2 := hide ((unhide RB2).keep hb); replace Ow0 := hide (own_keep (unhide Ow0) hb); replace Ow1 := hide (own_keep (unhide Ow1) hb); replace MG0 := hide ((unhide MG0).keep hb); replace MG1 := hide ((unhide MG1).keep hb); replace Su0 := hide ((unhide Su0).keep hb); replace Su1 := hide ((unhide Su1).keep hb); have Oh0 := hide hoh0; have loh0 := hide (fun g hg => (hoh0.lt g hg).1); have hih0 := hide (fun g hg => (hoh0.lt g hg).2); have Oh1 := hide hoh1; have loh1 := hide (fun g hg => (hoh1.lt g hg).1); have hih1 := hide (fun g hg => (hoh1.lt g hg).2)))
  clear RS
  obtain ⟨rfl, rfl⟩ := (unhide PW).uniq hph
  have B60 := hide (bTr (unhide B58) hb)
  clear B58
  clear hb hph hoh0 hoh1 hdjh
  clear Su0
  clear Su1
  go_wp2_with fail
  refine (eqOwnNest (unhide Oh0) (unhide Ow0) (by have := unhide LW; omega)).mono ?_
  rintro e w61 ⟨rfl, hb⟩
  replace RB2 := hide ((unhide RB2).keep hb)
  replace Ow0 := hide (own_keep (unhide Ow0) hb)
  replace Ow1 := hide (own_keep (unhide Ow1) hb)
  replace MG0 := hide ((unhide MG0).keep hb)
  replace MG1 := hide ((unhide MG1).keep hb)
  replace Oh0 := hide (own_keep (unhide Oh0) hb)
  replace Oh1 := hide (own_keep (unhide Oh1) hb)
  have B62 := hide (bTr (unhide B60) hb)
  clear B60
  clear hb
  go_wp2_with fail
  refine (eqOwnReach (unhide Oh1) (unhide Ow1) (by have := unhide LW; omega)).mono ?_
  rintro e w63 ⟨rfl, hb⟩
  replace RB2 := hide ((unhide RB2).keep hb)
  replace Ow0 := hide (own_keep (unhide Ow0) hb)
  replace Ow1 := hide (own_keep (unhide Ow1) hb)
  replace MG0 := hide ((unhide MG0).keep hb)
  replace MG1 := hide ((unhide MG1).keep hb)
  replace Oh0 := hide (own_keep (unhide Oh0) hb)
  replace Oh1 := hide (own_keep (unhide Oh1) hb)
  have B64 := hide (bTr (unhide B62) hb)
  clear B62
  clear hb
  have qh := hide (heldNest_own vg0 rg0.length 1 _ (by have := unhide LW; omega) (by omega) (by have := unhide LW; omega) (unhide MG0))
  rw [← unhide EM0] at qh
  go_wp2_with fail
  refine (unhide qh).mono ?_
  rintro e w65 ⟨rfl, hb⟩
  clear qh
  replace RB2 := hide ((unhide RB2).keep hb)
  replace Ow0 := hide (own_keep (unhide Ow0) hb)
  replace Ow1 := hide (own_keep (unhide Ow1) hb)
  replace MG0 := hide ((unhide MG0).keep hb)
  replace MG1 := hide ((unhide MG1).keep hb)
  have B66 := hide (bTr (unhide B64) hb)
  clear B64
  clear hb
  have qh := hide (heldReach_own vg1 rg1.length M0 _ (by have := unhide LW; omega) (by omega) (by have := unhide LW; omega) (unhide MG1))
  rw [← unhide EM1] at qh
  go_wp2_with fail
  refine (unhide qh).mono ?_
  rintro e w67 ⟨rfl, hb⟩
  clear qh
  replace RB2 := hide ((unhide RB2).keep hb)
  replace Ow0 := hide (own_keep (unhide Ow0) hb)
  replace Ow1 := hide (own_keep (unhide Ow1) hb)
  replace MG0 := hide ((unhide MG0).keep hb)
  replace MG1 := hide ((unhide MG1).keep hb)
  have B68 := hide (bTr (unhide B66) hb)
  clear B66
  clear hb
  go_wp2_with fail
  go_ret
  exact ⟨rfl, unhide B68⟩

set_option maxRecDepth 100000 in
theorem lifted (os : Os) (started : os.Started) (H : Type) (enc : TypeId × Value → H) :
    ReturnsInHanded {} Try.checked os 6 .any (Rows.fnExactDropNestSpec.pre6 enc Try.prog Try.f6 Rows.fnExactDropNestRow.domain false) (Rows.fnExactDropNestSpec.post enc Try.prog Try.f6 false true false false) := by
  refine returnsInHanded_of_change (C := Try.checked) own started (by kernel_rfl) Try.func6
    (ChangeSpec.witness6 (enc := enc) (C := Try.checked) false ⟨#[], #[.slice none 0 0, .slice none 0 0, .agg #[.string ByteArray.empty, .string ByteArray.empty]], []⟩ 8 (by kernel_rfl) (by kernel_rfl) (by kernel_rfl) (by kernel_rfl)) ?_
  intro W base args ds gs before hval0 hW hcnd _
  have hval : ∀ (j : Nat) t v, Try.f6.params[j]? = some t → args[j]? = some v → Value.okWide Try.prog W .any base t v := hval0
  have hW' := hW
  obtain ⟨p, q, hA0, hV, rfl, hfz, hnd⟩ := hW
  have hA : DataW.TrodAll enc Try.prog W 0 (fun _ => true) true Try.f6.params.toList args.toList ds p := hA0
  rw [Try.params6] at hA hval
  obtain ⟨v0, vs0, d0, ds0, p0, q0, hargs, rfl, rfl, h0, r0⟩ := trodAll_cons hA
  obtain ⟨v1, vs1, d1, ds1, p1, q1, rfl, rfl, rfl, h1, r1⟩ := trodAll_cons r0
  obtain ⟨v2, vs2, d2, ds2, p2, q2, rfl, rfl, rfl, h2, r2⟩ := trodAll_cons r1
  obtain ⟨rfl, rfl, rfl⟩ := trodAll_nil r2
  obtain rfl : args = #[v0, v1, v2] := by cases args; simp_all
  obtain ⟨rfl, rfl⟩ := trodVars_none hV
  have k0 := h0
  have lt0 : ∀ x ∈ p0, x.block < W.heap.size := by obtain ⟨m, hm⟩ := k0; exact DataW.trod_lt m _ _ _ hm
  obtain ⟨l0, a0, len0, cap0, e0, s0, o0, m0⟩ := read_Nests (hval 0 22 v0 rfl rfl) h0
  subst e0
  have k1 := h1
  have lt1 : ∀ x ∈ p1, x.block < W.heap.size := by obtain ⟨m, hm⟩ := k1; exact DataW.trod_lt m _ _ _ hm
  obtain ⟨l1, a1, len1, cap1, e1, s1, o1, m1⟩ := read_Reachs (hval 1 34 v1 rfl rfl) h1
  subst e1
  have k2 := h2
  have lt2 : ∀ x ∈ p2, x.block < W.heap.size := by obtain ⟨m, hm⟩ := k2; exact DataW.trod_lt m _ _ _ hm
  obtain ⟨f2, g2, e2, o2, m2⟩ := readv_Nest (hval 2 36 v2 rfl rfl) h2
  subst e2
  clear hA0 hval0
  refine (walk l0 a0 len0 cap0 l1 a1 len1 cap1 f2 g2 W s0 o0 m0 s1 o1 m1 o2 m2).mono fun e W' ⟨he, bel⟩ => ?_
  subst he
  exact ⟨_, rfl, _, _, _, [], _, [], hW', trodAll_mk1 (shut_bool Try.underlying4 _), (trodAll_cons_mk (Below.trod laidOut (by kernel_rfl) (of_decide_eq_true (by kernel_rfl)) k0 bel lt0) (trodAll_cons_mk (Below.trod laidOut (by kernel_rfl) (of_decide_eq_true (by kernel_rfl)) k1 bel lt1) (trodAll_cons_mk (Below.trod laidOut (by kernel_rfl) (of_decide_eq_true (by kernel_rfl)) k2 bel lt2) trodAll_mk0))), rfl, bel.frame _, fun h => by cases h⟩

theorem over : Rows.fnExactDropNestRow.holds Try.pinned (OpenSpec.ofChange Rows.fnExactDropNestSpec) :=
  OpenClaim.holds_of_wide 6 Try.f6 rfl rfl rfl rfl rfl rfl rfl ⟨rfl, rfl, rfl, rfl, rfl⟩ rfl rfl rfl rfl rfl (by kernel_rfl) Try.func6 (by kernel_rfl)
    (of_decide_eq_true (by kernel_rfl)) (by unfold Func.isWrapper; rw [if_neg (by decide +kernel)]; exact ⟨rfl, rfl⟩)
    (fun os started H enc _ => lifted os started H enc)
end Go.Proofs.Ytakjnbdjjeccoaa.fnExactDropNest
namespace Go.Proofs.Ytakjnbdjjeccoaa
theorem fnExactDropNest_holds : Rows.FnExactDropNestSaid := fnExactDropNest.over
end Go.Proofs.Ytakjnbdjjeccoaa
