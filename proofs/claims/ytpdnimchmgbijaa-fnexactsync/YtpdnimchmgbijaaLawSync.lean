/- The row of laws.FnExactSync: its walk, then the row's step. -/
import Derived.Test.YtpdnimchmgbijaaRows
import Derived.Test.YtpdnimchmgbijaaQLw
import Derived.Test.YtpdnimchmgbijaaQSyn
import Derived.WalkKit
import Derived.ProofKit
import Derived.OpenShut
import Derived.ShutString
import Derived.ChangeOld
import Derived.Below
import Derived.Lib.SmallJoins
namespace Go.Proofs.Ytpdnimchmgbijaa.fnExactSync
open Go.ChangeShapes Go.WideShapes Go.ChangeAt Go.RowKit Go.Joins
open Go.ChangeMaps (open_string shut_string)
set_option linter.unusedVariables false

theorem own : ownKnob Try.prog.godebug = none := by kernel_rfl
theorem laidOut : laidOutB Try.prog = true := by kernel_rfl

set_option maxRecDepth 100000 in
set_option maxHeartbeats 1500000 in
theorem walk (l0 : List DcT) (a0 : Option Addr) (len0 cap0 : Nat) (l1 : List DcT) (a1 : Option Addr) (len1 cap1 : Nat) (w : World) (hs0 : SlC w a0 len0 l0) (hok0 : ∀ q ∈ l0, DcT.Ok q) (hl0 : len0 ≤ maxLen) (hs1 : SlC w a1 len1 l1) (hok1 : ∀ q ∈ l1, DcT.Ok q) (hl1 : len1 ≤ maxLen) :
    Calls Try.prog 3 #[.slice a0 len0 cap0, .slice a1 len1 cap1] w fun e w' => e = .returned (.bool true) ∧ Below w.heap.size w w' := by
  have HS0 := hide hs0
  have HO0 := hide hok0
  have HL0 := hide hl0
  have hll0 := hide hs0.1
  clear hs0 hok0 hl0
  have HS1 := hide hs1
  have HO1 := hide hok1
  have HL1 := hide hl1
  have hll1 := hide hs1.1
  clear hs1 hok1 hl1
  go_enter Try.func3, Try.ntmps3
  go_wp2_with fail
  refine (szDirChangeS_any a0 len0 cap0 l0 _ _ (by omega) (by omega) (unhide HL0) (unhide HS0) (unhide HO0)).mono ?_
  rintro e w1 ⟨⟨m0, hma0, hmb0, hmc0, rfl⟩, hb⟩
  have B2 := hide (hb)
  clear hb
  by_cases hm0 : m0 < 0
  · go_wp2_with fail
    go_ret
    exact ⟨rfl, unhide B2⟩
  have g0 : len0 ≤ 1048576 := by omega
  clear hmc0
  go_wp2_with fail
  refine (szDirChangeS_any a1 len1 cap1 l1 _ _ (by omega) (by omega) (unhide HL1) ((unhide HS1).keep (unhide B2)) (unhide HO1)).mono ?_
  rintro e w3 ⟨⟨m1, hma1, hmb1, hmc1, rfl⟩, hb⟩
  have B4 := hide (bTr (unhide B2) hb)
  clear B2
  clear hb
  by_cases hm1 : m1 < 0
  · go_wp2_with fail
    go_ret
    exact ⟨rfl, unhide B4⟩
  have g1 : len1 ≤ 1048576 := by omega
  clear hmc1
  go_wp2_with fail
  refine (toDirChangeS_own a0 len0 cap0 l0 _ g0 ((unhide HS0).keep (unhide B4))).mono ?_
  rintro e w5 ⟨rfl, ⟨Ct0, Rt0, zt0, rwt0⟩, hb⟩
  obtain ⟨bt0, ebt0⟩ : ∃ b, b = w3.heap.size := ⟨_, rfl⟩
  rw [← ebt0] at Rt0 rwt0
  rw [← ebt0]
  have St0 := hide (show SlC w5 (some ⟨bt0, 0, none⟩) len0 l0 from ⟨unhide hll0, .inr ⟨_, 0, rfl, rwt0⟩⟩)
  clear Rt0 zt0
  have B6 := hide (bTr (unhide B4) hb)
  clear B4
  clear hb rwt0 ebt0
  go_wp2_with fail
  refine (toDirChangeS_own a1 len1 cap1 l1 _ g1 ((unhide HS1).keep (unhide B6))).mono ?_
  rintro e w7 ⟨rfl, ⟨Ct1, Rt1, zt1, rwt1⟩, hb⟩
  obtain ⟨bt1, ebt1⟩ : ∃ b, b = w5.heap.size := ⟨_, rfl⟩
  rw [← ebt1] at Rt1 rwt1
  rw [← ebt1]
  replace St0 := hide ((unhide St0).keep hb)
  have St1 := hide (show SlC w7 (some ⟨bt1, 0, none⟩) len1 l1 from ⟨unhide hll1, .inr ⟨_, 0, rfl, rwt1⟩⟩)
  clear Rt1 zt1
  have B8 := hide (bTr (unhide B6) hb)
  clear B6
  clear hb rwt1 ebt1
  go_wp2_with fail
  refine (sSync_any _ len0 _ l0 _ len1 _ l1 _ (unhide HL0) (unhide St0) (unhide HO0) (unhide HL1) (unhide St1) (unhide HO1)).mono ?_
  rintro e w9 ⟨⟨vw0, vw1, rw0, rw1, rfl, hpw, how0, how1, hdjw⟩, hb⟩
  replace St0 := hide ((unhide St0).keep hb)
  replace St1 := hide ((unhide St1).keep hb)
  have Ow0 := hide how0
  have low0 := hide (fun g hg => (how0.lt g hg).1)
  have hiw0 := hide (fun g hg => (how0.lt g hg).2)
  have Ow1 := hide how1
  have low1 := hide (fun g hg => (how1.lt g hg).1)
  have hiw1 := hide (fun g hg => (how1.lt g hg).2)
  have PW := hide hpw
  have LW := hide hpw.len
  have B10 := hide (bTr (unhide B8) hb)
  clear B8
  have BW := hide (unhide B10).size
  clear hb hpw how0 how1 hdjw
  clear St0
  clear St1
  go_wp2_with fail
  refine (toDirChangeS_own a0 len0 cap0 l0 _ g0 ((unhide HS0).keep (unhide B10))).mono ?_
  rintro e w11 ⟨rfl, ⟨Cx0, Rx0, zx0, rwx0⟩, hb⟩
  obtain ⟨bx0, ebx0⟩ : ∃ b, b = w9.heap.size := ⟨_, rfl⟩
  rw [← ebx0] at Rx0 rwx0
  rw [← ebx0]
  have LX0 := hide (show w9.heap.size ≤ bx0 by rw [ebx0]; exact Nat.le_refl _)
  have ZW0 := hide (show w9.heap.size ≤ w11.heap.size from hb.size)
  replace Ow0 := hide (own_keep (unhide Ow0) hb)
  replace Ow1 := hide (own_keep (unhide Ow1) hb)
  have Sx0 := hide (show SlC w11 (some ⟨bx0, 0, none⟩) len0 l0 from ⟨unhide hll0, .inr ⟨_, 0, rfl, rwx0⟩⟩)
  have RX0 := hide Rx0
  have ZX0 := hide (show len0 * 9 ≤ Cx0.size by omega)
  clear Rx0 zx0
  have B12 := hide (bTr (unhide B10) hb)
  clear B10
  clear hb rwx0 ebx0
  go_wp2_with fail
  refine (toDirChangeS_own a1 len1 cap1 l1 _ g1 ((unhide HS1).keep (unhide B12))).mono ?_
  rintro e w13 ⟨rfl, ⟨Cx1, Rx1, zx1, rwx1⟩, hb⟩
  obtain ⟨bx1, ebx1⟩ : ∃ b, b = w11.heap.size := ⟨_, rfl⟩
  rw [← ebx1] at Rx1 rwx1
  rw [← ebx1]
  have NX01 := hide (show bx0 < bx1 by rw [ebx1]; exact (unhide RX0).lt)
  have LX1 := hide (show w9.heap.size ≤ bx1 by rw [ebx1]; exact unhide ZW0)
  have ZW1 := hide (show w9.heap.size ≤ w13.heap.size from Nat.le_trans (unhide ZW0) hb.size)
  replace Ow0 := hide (own_keep (unhide Ow0) hb)
  replace Ow1 := hide (own_keep (unhide Ow1) hb)
  replace Sx0 := hide ((unhide Sx0).keep hb)
  replace RX0 := hide ((unhide RX0).keep hb)
  have Sx1 := hide (show SlC w13 (some ⟨bx1, 0, none⟩) len1 l1 from ⟨unhide hll1, .inr ⟨_, 0, rfl, rwx1⟩⟩)
  have RX1 := hide Rx1
  have ZX1 := hide (show len1 * 9 ≤ Cx1.size by omega)
  clear Rx1 zx1
  have B14 := hide (bTr (unhide B12) hb)
  clear B12
  clear hb rwx1 ebx1
  have BG := hide (unhide B14).size
  have LT0 := hide (show bx0 < w13.heap.size from (unhide RX0).lt)
  have LT1 := hide (show bx1 < w13.heap.size from (unhide RX1).lt)
  have WG := hide (show w9.heap.size ≤ w13.heap.size by have h1 := unhide LX0; have h2 := unhide LT0; omega)
  go_wp2_with fail
  refine (iSync_any _ len0 _ l0 _ len1 _ l1 _ (unhide HL0) (unhide Sx0) (unhide HO0) (unhide HL1) (unhide Sx1) (unhide HO1)).mono ?_
  rintro e w15 ⟨⟨vg0, vg1, rg0, rg1, rfl, hpg, hog0, hog1, hdjg⟩, hb⟩
  replace Ow0 := hide (own_keep (unhide Ow0) hb)
  replace Ow1 := hide (own_keep (unhide Ow1) hb)
  replace Sx0 := hide ((unhide Sx0).keep hb)
  replace RX0 := hide ((unhide RX0).keep hb)
  replace Sx1 := hide ((unhide Sx1).keep hb)
  replace RX1 := hide ((unhide RX1).keep hb)
  have Og0 := hide hog0
  have log0 := hide (fun g hg => (hog0.lt g hg).1)
  have hig0 := hide (fun g hg => (hog0.lt g hg).2)
  have Og1 := hide hog1
  have log1 := hide (fun g hg => (hog1.lt g hg).1)
  have hig1 := hide (fun g hg => (hog1.lt g hg).2)
  obtain ⟨rfl, rfl⟩ := hpg.uniq (unhide PW)
  have NE01 := hide hdjg.ne
  have NE01b := hide hdjg.ne'
  clear hdjg
  have B16 := hide (bTr (unhide B14) hb)
  clear B14
  clear hb hpg hog0 hog1
  go_wp2_with fail
  refine (eqOwnC (unhide Og0) (unhide Ow0) (by have := unhide LW; omega)).mono ?_
  rintro e w17 ⟨rfl, hb⟩
  replace Ow0 := hide (own_keep (unhide Ow0) hb)
  replace Ow1 := hide (own_keep (unhide Ow1) hb)
  replace Sx0 := hide ((unhide Sx0).keep hb)
  replace RX0 := hide ((unhide RX0).keep hb)
  replace Sx1 := hide ((unhide Sx1).keep hb)
  replace RX1 := hide ((unhide RX1).keep hb)
  replace Og0 := hide (own_keep (unhide Og0) hb)
  replace Og1 := hide (own_keep (unhide Og1) hb)
  have B18 := hide (bTr (unhide B16) hb)
  clear B16
  clear hb
  go_wp2_with fail
  refine (eqOwnC (unhide Og1) (unhide Ow1) (by have := unhide LW; omega)).mono ?_
  rintro e w19 ⟨rfl, hb⟩
  replace Ow0 := hide (own_keep (unhide Ow0) hb)
  replace Ow1 := hide (own_keep (unhide Ow1) hb)
  replace Sx0 := hide ((unhide Sx0).keep hb)
  replace RX0 := hide ((unhide RX0).keep hb)
  replace Sx1 := hide ((unhide Sx1).keep hb)
  replace RX1 := hide ((unhide RX1).keep hb)
  replace Og0 := hide (own_keep (unhide Og0) hb)
  replace Og1 := hide (own_keep (unhide Og1) hb)
  have B20 := hide (bTr (unhide B18) hb)
  clear B18
  clear hb
  go_wp2_with fail
  refine (toDirChangeS_own a0 len0 cap0 l0 _ g0 ((unhide HS0).keep (unhide B20))).mono ?_
  rintro e w21 ⟨rfl, ⟨Cy, Ry, zy, rwy⟩, hb⟩
  replace Ow0 := hide (own_keep (unhide Ow0) hb)
  replace Ow1 := hide (own_keep (unhide Ow1) hb)
  replace Sx0 := hide ((unhide Sx0).keep hb)
  replace RX0 := hide ((unhide RX0).keep hb)
  replace Sx1 := hide ((unhide Sx1).keep hb)
  replace RX1 := hide ((unhide RX1).keep hb)
  replace Og0 := hide (own_keep (unhide Og0) hb)
  replace Og1 := hide (own_keep (unhide Og1) hb)
  have SY := hide (show SlC w21 (some ⟨w19.heap.size, 0, none⟩) len0 l0 from ⟨unhide hll0, .inr ⟨_, 0, rfl, rwy⟩⟩)
  have B22 := hide (bTr (unhide B20) hb)
  clear B20
  clear hb Ry zy rwy
  go_wp2_with fail
  refine (eqDirChangeS_same _ _ len0 _ len0 _ l0 _ (unhide Sx0) (unhide SY) (unhide HL0)).mono ?_
  rintro e w23 ⟨rfl, hb⟩
  replace Ow0 := hide (own_keep (unhide Ow0) hb)
  replace Ow1 := hide (own_keep (unhide Ow1) hb)
  replace Sx0 := hide ((unhide Sx0).keep hb)
  replace RX0 := hide ((unhide RX0).keep hb)
  replace Sx1 := hide ((unhide Sx1).keep hb)
  replace RX1 := hide ((unhide RX1).keep hb)
  replace Og0 := hide (own_keep (unhide Og0) hb)
  replace Og1 := hide (own_keep (unhide Og1) hb)
  have B24 := hide (bTr (unhide B22) hb)
  clear B22
  clear hb SY
  go_wp2_with fail
  refine (toDirChangeS_own a1 len1 cap1 l1 _ g1 ((unhide HS1).keep (unhide B24))).mono ?_
  rintro e w25 ⟨rfl, ⟨Cy, Ry, zy, rwy⟩, hb⟩
  replace Ow0 := hide (own_keep (unhide Ow0) hb)
  replace Ow1 := hide (own_keep (unhide Ow1) hb)
  replace Sx0 := hide ((unhide Sx0).keep hb)
  replace RX0 := hide ((unhide RX0).keep hb)
  replace Sx1 := hide ((unhide Sx1).keep hb)
  replace RX1 := hide ((unhide RX1).keep hb)
  replace Og0 := hide (own_keep (unhide Og0) hb)
  replace Og1 := hide (own_keep (unhide Og1) hb)
  have SY := hide (show SlC w25 (some ⟨w23.heap.size, 0, none⟩) len1 l1 from ⟨unhide hll1, .inr ⟨_, 0, rfl, rwy⟩⟩)
  have B26 := hide (bTr (unhide B24) hb)
  clear B24
  clear hb Ry zy rwy
  go_wp2_with fail
  refine (eqDirChangeS_same _ _ len1 _ len1 _ l1 _ (unhide Sx1) (unhide SY) (unhide HL1)).mono ?_
  rintro e w27 ⟨rfl, hb⟩
  replace Ow0 := hide (own_keep (unhide Ow0) hb)
  replace Ow1 := hide (own_keep (unhide Ow1) hb)
  replace Sx0 := hide ((unhide Sx0).keep hb)
  replace RX0 := hide ((unhide RX0).keep hb)
  replace Sx1 := hide ((unhide Sx1).keep hb)
  replace RX1 := hide ((unhide RX1).keep hb)
  replace Og0 := hide (own_keep (unhide Og0) hb)
  replace Og1 := hide (own_keep (unhide Og1) hb)
  have B28 := hide (bTr (unhide B26) hb)
  clear B26
  clear hb SY
  clear Sx0
  clear Sx1
  have qk := hide (markC_row bx0 len0 len0 1 Cx0 _ g0 (by omega) (by omega) (unhide ZX0) (unhide RX0))
  obtain ⟨T0, eT0⟩ : ∃ T, T = 1 + len0 * 9 := ⟨_, rfl⟩
  rw [← eT0] at qk
  have hT0 : 1 ≤ T0 ∧ T0 ≤ 20000000 := by omega
  clear eT0
  go_wp2_with fail
  refine (unhide qk).mono ?_
  rintro e w29 ⟨rfl, _, hg⟩
  clear qk
  clear RX0 ZX0
  replace Ow0 := hide ((unhide Ow0).kept hg (.inr (fun e => by have h1 := unhide hiw0 _ e; have h2 := unhide LX0; omega)))
  replace Og0 := hide ((unhide Og0).kept hg (.inr (fun e => by have h1 := unhide log0 _ e; have h2 := unhide LT0; omega)))
  replace Ow1 := hide ((unhide Ow1).kept hg (.inr (fun e => by have h1 := unhide hiw1 _ e; have h2 := unhide LX0; omega)))
  replace Og1 := hide ((unhide Og1).kept hg (.inr (fun e => by have h1 := unhide log1 _ e; have h2 := unhide LT0; omega)))
  replace RX1 := hide (row_grown (unhide RX1) hg (by have := unhide NX01; intro e; simp at e; omega))
  have B30 := hide ((unhide B28).grown hg (by have := (unhide B28).size; omega) (fun k h => by cases h; have := unhide LX0; have := unhide BW; omega))
  clear hg B28
  have qk := hide (markC_row bx1 len1 len1 T0 Cx1 _ g1 (by omega) (by omega) (unhide ZX1) (unhide RX1))
  obtain ⟨T1, eT1⟩ : ∃ T, T = T0 + len1 * 9 := ⟨_, rfl⟩
  rw [← eT1] at qk
  have hT1 : 1 ≤ T1 ∧ T1 ≤ 40000000 := by omega
  clear eT1
  go_wp2_with fail
  refine (unhide qk).mono ?_
  rintro e w31 ⟨rfl, _, hg⟩
  clear qk
  clear RX1 ZX1
  replace Ow0 := hide ((unhide Ow0).kept hg (.inr (fun e => by have h1 := unhide hiw0 _ e; have h2 := unhide LX1; omega)))
  replace Og0 := hide ((unhide Og0).kept hg (.inr (fun e => by have h1 := unhide log0 _ e; have h2 := unhide LT1; omega)))
  replace Ow1 := hide ((unhide Ow1).kept hg (.inr (fun e => by have h1 := unhide hiw1 _ e; have h2 := unhide LX1; omega)))
  replace Og1 := hide ((unhide Og1).kept hg (.inr (fun e => by have h1 := unhide log1 _ e; have h2 := unhide LT1; omega)))
  have B32 := hide ((unhide B30).grown hg (by have := (unhide B30).size; omega) (fun k h => by cases h; have := unhide LX1; have := unhide BW; omega))
  clear hg B30
  have tk : ¬ (T1 : Int) < 0 := by omega
  go_wp2_with fail
  refine (eqOwnC (unhide Og0) (unhide Ow0) (by have := unhide LW; omega)).mono ?_
  rintro e w33 ⟨rfl, hb⟩
  replace Ow0 := hide (own_keep (unhide Ow0) hb)
  replace Ow1 := hide (own_keep (unhide Ow1) hb)
  replace Og0 := hide (own_keep (unhide Og0) hb)
  replace Og1 := hide (own_keep (unhide Og1) hb)
  have B34 := hide (bTr (unhide B32) hb)
  clear B32
  clear hb
  go_wp2_with fail
  refine (eqOwnC (unhide Og1) (unhide Ow1) (by have := unhide LW; omega)).mono ?_
  rintro e w35 ⟨rfl, hb⟩
  replace Ow0 := hide (own_keep (unhide Ow0) hb)
  replace Ow1 := hide (own_keep (unhide Ow1) hb)
  replace Og0 := hide (own_keep (unhide Og0) hb)
  replace Og1 := hide (own_keep (unhide Og1) hb)
  have B36 := hide (bTr (unhide B34) hb)
  clear B34
  clear hb
  have qm := hide (markC_own vg0 rg0.length 1 _ _ _ (by have := unhide LW; omega) (by omega) (by have := unhide LW; omega) (unhide Og0))
  obtain ⟨M0, eM0⟩ : ∃ M, M = 1 + rg0.length * 9 := ⟨_, rfl⟩
  rw [← eM0] at qm
  have hM0 : 1 ≤ M0 ∧ M0 ≤ 20000000 := by have := unhide LW; omega
  have EM0 := hide eM0
  clear eM0
  go_wp2_with fail
  refine (unhide qm).mono ?_
  rintro e w37 ⟨rfl, hM, hg⟩
  clear qm
  replace Ow0 := hide ((unhide Ow0).kept hg (own_ne (fun g e => unhide hiw0 g e) (fun g e => unhide log0 g e) (unhide WG)))
  replace Ow1 := hide ((unhide Ow1).kept hg (own_ne (fun g e => unhide hiw1 g e) (fun g e => unhide log0 g e) (unhide WG)))
  replace Og1 := hide ((unhide Og1).kept hg (unhide NE01))
  have MG0 := hide hM
  clear Og0 hM
  have B38 := hide ((unhide B36).grown hg (by have := (unhide B36).size; omega) (fun k h => by have h1 := unhide log0 k h; have := unhide BG; omega))
  clear hg B36
  have qm := hide (markC_own vg1 rg1.length M0 _ _ _ (by have := unhide LW; omega) (by omega) (by have := unhide LW; omega) (unhide Og1))
  obtain ⟨M1, eM1⟩ : ∃ M, M = M0 + rg1.length * 9 := ⟨_, rfl⟩
  rw [← eM1] at qm
  have hM1 : 1 ≤ M1 ∧ M1 ≤ 40000000 := by have := unhide LW; omega
  have EM1 := hide eM1
  clear eM1
  go_wp2_with fail
  refine (unhide qm).mono ?_
  rintro e w39 ⟨rfl, hM, hg⟩
  clear qm
  replace Ow0 := hide ((unhide Ow0).kept hg (own_ne (fun g e => unhide hiw0 g e) (fun g e => unhide log1 g e) (unhide WG)))
  replace Ow1 := hide ((unhide Ow1).kept hg (own_ne (fun g e => unhide hiw1 g e) (fun g e => unhide log1 g e) (unhide WG)))
  replace MG0 := hide (marks_grownC (unhide MG0) hg (unhide NE01b))
  have MG1 := hide hM
  clear Og1 hM
  have B40 := hide ((unhide B38).grown hg (by have := (unhide B38).size; omega) (fun k h => by have h1 := unhide log1 k h; have := unhide BG; omega))
  clear hg B38
  have qh := hide (heldC_own vg0 rg0.length 1 _ (by have := unhide LW; omega) (by omega) (by have := unhide LW; omega) (unhide MG0))
  rw [← unhide EM0] at qh
  go_wp2_with fail
  refine (unhide qh).mono ?_
  rintro e w41 ⟨rfl, hb⟩
  clear qh
  replace Ow0 := hide (own_keep (unhide Ow0) hb)
  replace Ow1 := hide (own_keep (unhide Ow1) hb)
  replace MG0 := hide ((unhide MG0).keep hb)
  replace MG1 := hide ((unhide MG1).keep hb)
  have B42 := hide (bTr (unhide B40) hb)
  clear B40
  clear hb
  have th0 : ¬ (M0 : Int) < 0 := by omega
  have qh := hide (heldC_own vg1 rg1.length M0 _ (by have := unhide LW; omega) (by omega) (by have := unhide LW; omega) (unhide MG1))
  rw [← unhide EM1] at qh
  go_wp2_with fail
  refine (unhide qh).mono ?_
  rintro e w43 ⟨rfl, hb⟩
  clear qh
  replace Ow0 := hide (own_keep (unhide Ow0) hb)
  replace Ow1 := hide (own_keep (unhide Ow1) hb)
  replace MG0 := hide ((unhide MG0).keep hb)
  replace MG1 := hide ((unhide MG1).keep hb)
  have B44 := hide (bTr (unhide B42) hb)
  clear B42
  clear hb
  have th1 : ¬ (M1 : Int) < 0 := by omega
  have tm : ((M1 : Int) != (M1 : Int)) = false := by simp
  go_wp2_with fail
  refine (toDirChangeS_own a0 len0 cap0 l0 _ g0 ((unhide HS0).keep (unhide B44))).mono ?_
  rintro e w45 ⟨rfl, ⟨Cu0, Ru0, zu0, rwu0⟩, hb⟩
  obtain ⟨bu0, ebu0⟩ : ∃ b, b = w43.heap.size := ⟨_, rfl⟩
  rw [← ebu0] at Ru0 rwu0
  rw [← ebu0]
  replace Ow0 := hide (own_keep (unhide Ow0) hb)
  replace Ow1 := hide (own_keep (unhide Ow1) hb)
  replace MG0 := hide ((unhide MG0).keep hb)
  replace MG1 := hide ((unhide MG1).keep hb)
  have Su0 := hide (show SlC w45 (some ⟨bu0, 0, none⟩) len0 l0 from ⟨unhide hll0, .inr ⟨_, 0, rfl, rwu0⟩⟩)
  clear Ru0 zu0
  have B46 := hide (bTr (unhide B44) hb)
  clear B44
  clear hb rwu0 ebu0
  go_wp2_with fail
  refine (toDirChangeS_own a1 len1 cap1 l1 _ g1 ((unhide HS1).keep (unhide B46))).mono ?_
  rintro e w47 ⟨rfl, ⟨Cu1, Ru1, zu1, rwu1⟩, hb⟩
  obtain ⟨bu1, ebu1⟩ : ∃ b, b = w45.heap.size := ⟨_, rfl⟩
  rw [← ebu1] at Ru1 rwu1
  rw [← ebu1]
  replace Ow0 := hide (own_keep (unhide Ow0) hb)
  replace Ow1 := hide (own_keep (unhide Ow1) hb)
  replace MG0 := hide ((unhide MG0).keep hb)
  replace MG1 := hide ((unhide MG1).keep hb)
  replace Su0 := hide ((unhide Su0).keep hb)
  have Su1 := hide (show SlC w47 (some ⟨bu1, 0, none⟩) len1 l1 from ⟨unhide hll1, .inr ⟨_, 0, rfl, rwu1⟩⟩)
  clear Ru1 zu1
  have B48 := hide (bTr (unhide B46) hb)
  clear B46
  clear hb rwu1 ebu1
  go_wp2_with fail
  refine (iSync_any _ len0 _ l0 _ len1 _ l1 _ (unhide HL0) (unhide Su0) (unhide HO0) (unhide HL1) (unhide Su1) (unhide HO1)).mono ?_
  rintro e w49 ⟨⟨vh0, vh1, rh0, rh1, rfl, hph, hoh0, hoh1, hdjh⟩, hb⟩
  replace Ow0 := hide (own_keep (unhide Ow0) hb)
  replace Ow1 := hide (own_keep (unhide Ow1) hb)
  replace MG0 := hide ((unhide MG0).keep hb)
  replace MG1 := hide ((unhide MG1).keep hb)
  replace Su0 := hide ((unhide Su0).keep hb)
  replace Su1 := hide ((unhide Su1).keep hb)
  have Oh0 := hide hoh0
  have loh0 := hide (fun g hg => (hoh0.lt g hg).1)
  have hih0 := hide (fun g hg => (hoh0.lt g hg).2)
  have Oh1 := hide hoh1
  have loh1 := hide (fun g hg => (hoh1.lt g hg).1)
  have hih1 := hide (fun g hg => (hoh1.lt g hg).2)
  obtain ⟨rfl, rfl⟩ := (unhide PW).uniq hph
  have B50 := hide (bTr (unhide B48) hb)
  clear B48
  clear hb hph hoh0 hoh1 hdjh
  clear Su0
  clear Su1
  go_wp2_with fail
  refine (eqOwnC (unhide Oh0) (unhide Ow0) (by have := unhide LW; omega)).mono ?_
  rintro e w51 ⟨rfl, hb⟩
  replace Ow0 := hide (own_keep (unhide Ow0) hb)
  replace Ow1 := hide (own_keep (unhide Ow1) hb)
  replace MG0 := hide ((unhide MG0).keep hb)
  replace MG1 := hide ((unhide MG1).keep hb)
  replace Oh0 := hide (own_keep (unhide Oh0) hb)
  replace Oh1 := hide (own_keep (unhide Oh1) hb)
  have B52 := hide (bTr (unhide B50) hb)
  clear B50
  clear hb
  go_wp2_with fail
  refine (eqOwnC (unhide Oh1) (unhide Ow1) (by have := unhide LW; omega)).mono ?_
  rintro e w53 ⟨rfl, hb⟩
  replace Ow0 := hide (own_keep (unhide Ow0) hb)
  replace Ow1 := hide (own_keep (unhide Ow1) hb)
  replace MG0 := hide ((unhide MG0).keep hb)
  replace MG1 := hide ((unhide MG1).keep hb)
  replace Oh0 := hide (own_keep (unhide Oh0) hb)
  replace Oh1 := hide (own_keep (unhide Oh1) hb)
  have B54 := hide (bTr (unhide B52) hb)
  clear B52
  clear hb
  have qh := hide (heldC_own vg0 rg0.length 1 _ (by have := unhide LW; omega) (by omega) (by have := unhide LW; omega) (unhide MG0))
  rw [← unhide EM0] at qh
  go_wp2_with fail
  refine (unhide qh).mono ?_
  rintro e w55 ⟨rfl, hb⟩
  clear qh
  replace Ow0 := hide (own_keep (unhide Ow0) hb)
  replace Ow1 := hide (own_keep (unhide Ow1) hb)
  replace MG0 := hide ((unhide MG0).keep hb)
  replace MG1 := hide ((unhide MG1).keep hb)
  have B56 := hide (bTr (unhide B54) hb)
  clear B54
  clear hb
  have qh := hide (heldC_own vg1 rg1.length M0 _ (by have := unhide LW; omega) (by omega) (by have := unhide LW; omega) (unhide MG1))
  rw [← unhide EM1] at qh
  go_wp2_with fail
  refine (unhide qh).mono ?_
  rintro e w57 ⟨rfl, hb⟩
  clear qh
  replace Ow0 := hide (own_keep (unhide Ow0) hb)
  replace Ow1 := hide (own_keep (unhide Ow1) hb)
  replace MG0 := hide ((unhide MG0).keep hb)
  replace MG1 := hide ((unhide MG1).keep hb)
  have B58 := hide (bTr (unhide B56) hb)
  clear B56
  clear hb
  go_wp2_with fail
  go_ret
  exact ⟨rfl, unhide B58⟩

set_option maxRecDepth 100000 in
theorem lifted (os : Os) (started : os.Started) (H : Type) (enc : TypeId × Value → H) :
    ReturnsInHanded {} Try.checked os 3 .any (Rows.fnExactSyncSpec.pre6 enc Try.prog Try.f3 Rows.fnExactSyncRow.domain false) (Rows.fnExactSyncSpec.post enc Try.prog Try.f3 false true false false) := by
  refine returnsInHanded_of_change (C := Try.checked) own started (by kernel_rfl) Try.func3
    (ChangeSpec.witness6 (enc := enc) (C := Try.checked) false ⟨#[], #[.slice none 0 0, .slice none 0 0], []⟩ 8 (by kernel_rfl) (by kernel_rfl) (by kernel_rfl) (by kernel_rfl)) ?_
  intro W base args ds gs before hval0 hW hcnd _
  have hval : ∀ (j : Nat) t v, Try.f3.params[j]? = some t → args[j]? = some v → Value.okWide Try.prog W .any base t v := hval0
  have hW' := hW
  obtain ⟨p, q, hA0, hV, rfl, hfz, hnd⟩ := hW
  have hA : DataW.TrodAll enc Try.prog W 0 (fun _ => true) true Try.f3.params.toList args.toList ds p := hA0
  rw [Try.params3] at hA hval
  obtain ⟨v0, vs0, d0, ds0, p0, q0, hargs, rfl, rfl, h0, r0⟩ := trodAll_cons hA
  obtain ⟨v1, vs1, d1, ds1, p1, q1, rfl, rfl, rfl, h1, r1⟩ := trodAll_cons r0
  obtain ⟨rfl, rfl, rfl⟩ := trodAll_nil r1
  obtain rfl : args = #[v0, v1] := by cases args; simp_all
  obtain ⟨rfl, rfl⟩ := trodVars_none hV
  have k0 := h0
  have lt0 : ∀ x ∈ p0, x.block < W.heap.size := by obtain ⟨m, hm⟩ := k0; exact DataW.trod_lt m _ _ _ hm
  obtain ⟨l0, a0, len0, cap0, e0, s0, o0, m0⟩ := read_log (hval 0 22 v0 rfl rfl) h0
  subst e0
  have k1 := h1
  have lt1 : ∀ x ∈ p1, x.block < W.heap.size := by obtain ⟨m, hm⟩ := k1; exact DataW.trod_lt m _ _ _ hm
  obtain ⟨l1, a1, len1, cap1, e1, s1, o1, m1⟩ := read_log (hval 1 22 v1 rfl rfl) h1
  subst e1
  clear hA0 hval0
  refine (walk l0 a0 len0 cap0 l1 a1 len1 cap1 W s0 o0 m0 s1 o1 m1).mono fun e W' ⟨he, bel⟩ => ?_
  subst he
  exact ⟨_, rfl, _, _, _, [], _, [], hW', trodAll_mk1 (shut_bool Try.underlying4 _), (trodAll_cons_mk (Below.trod laidOut (by kernel_rfl) (of_decide_eq_true (by kernel_rfl)) k0 bel lt0) (trodAll_cons_mk (Below.trod laidOut (by kernel_rfl) (of_decide_eq_true (by kernel_rfl)) k1 bel lt1) trodAll_mk0)), rfl, bel.frame _, fun h => by cases h⟩

theorem over : Rows.fnExactSyncRow.holds Try.pinned (OpenSpec.ofChange Rows.fnExactSyncSpec) :=
  OpenClaim.holds_of_wide 3 Try.f3 rfl rfl rfl rfl rfl rfl rfl ⟨rfl, rfl, rfl, rfl, rfl⟩ rfl rfl rfl rfl rfl (by kernel_rfl) Try.func3 (by kernel_rfl)
    (of_decide_eq_true (by kernel_rfl)) (by unfold Func.isWrapper; rw [if_neg (by decide +kernel)]; exact ⟨rfl, rfl⟩)
    (fun os started H enc _ => lifted os started H enc)
end Go.Proofs.Ytpdnimchmgbijaa.fnExactSync
namespace Go.Proofs.Ytpdnimchmgbijaa
theorem fnExactSync_holds : Rows.FnExactSyncSaid := fnExactSync.over
end Go.Proofs.Ytpdnimchmgbijaa
