/- The row of laws.FnExactRunRecovery: its walk, then the row's step. -/
import Derived.Test.YtoikjamafglilaaRows
import Derived.Test.YtoikjamafglilaaKWp
import Derived.WalkKit
import Derived.ProofKit
import Derived.OpenShut
import Derived.ShutString
import Derived.ChangeOld
import Derived.Below
import Derived.Lib.SmallJoins
namespace Go.Proofs.Ytoikjamafglilaa.fnExactRunRecovery
open Go.ChangeShapes Go.WideShapes Go.ChangeAt Go.RowKit Go.Joins
open Go.ChangeMaps (open_string shut_string)
set_option linter.unusedVariables false

theorem own : ownKnob Try.prog.godebug = none := by kernel_rfl
theorem laidOut : laidOutB Try.prog = true := by kernel_rfl

set_option maxRecDepth 100000 in
set_option maxHeartbeats 4000000 in
theorem walk (x0 : Int) (x1 : Int) (l2 : List ByteArray) (a2 : Option Addr) (len2 cap2 : Nat) (l3 : List RecoverEventT) (a3 : Option Addr) (len3 cap3 : Nat) (w : World) (hs2 : SlTx w a2 len2 l2) (hok2 : ∀ q ∈ l2, TxOk q) (hl2 : len2 ≤ maxLen) (hs3 : SlRecoverEvent w a3 len3 l3) (hok3 : ∀ q ∈ l3, RecoverEventT.Ok q) (hl3 : len3 ≤ maxLen) :
    Calls Try.prog 3 #[.int .i64 x0, .int .i64 x1, .slice a2 len2 cap2, .slice a3 len3 cap3] w fun e w' => e = .returned (.bool true) ∧ Below w.heap.size w w' := by
  have HS2 := hide hs2
  have HO2 := hide hok2
  have HL2 := hide hl2
  have hll2 := hide hs2.1
  clear hs2 hok2 hl2
  have HS3 := hide hs3
  have HO3 := hide hok3
  have HL3 := hide hl3
  have hll3 := hide hs3.1
  clear hs3 hok3 hl3
  go_enter Try.func3, Try.ntmps3
  go_wp2_with fail
  refine (szTxS_any a2 len2 cap2 l2 _ _ (by omega) (by omega) (unhide HL2) (unhide HS2) (unhide HO2)).mono ?_
  rintro e w1 ⟨⟨m2, hma2, hmb2, hmc2, rfl⟩, hb⟩
  have B2 := hide (hb)
  clear hb
  by_cases hm2 : m2 < 0
  · go_wp2_with fail
    go_ret
    exact ⟨rfl, unhide B2⟩
  have g2 : len2 ≤ 1048576 := by omega
  clear hmc2
  go_wp2_with fail
  refine (szRecoverEventS_any a3 len3 cap3 l3 _ _ (by omega) (by omega) (unhide HL3) ((unhide HS3).keep (unhide B2)) (unhide HO3)).mono ?_
  rintro e w3 ⟨⟨m3, hma3, hmb3, hmc3, rfl⟩, hb⟩
  have B4 := hide (bTr (unhide B2) hb)
  clear B2
  clear hb
  by_cases hm3 : m3 < 0
  · go_wp2_with fail
    go_ret
    exact ⟨rfl, unhide B4⟩
  have g3 : len3 ≤ 1048576 := by omega
  clear hmc3
  go_wp2_with fail
  refine (toTxS_own a2 len2 cap2 l2 _ g2 ((unhide HS2).keep (unhide B4))).mono ?_
  rintro e w5 ⟨rfl, ⟨Ct2, Rt2, zt2, rwt2⟩, hb⟩
  obtain ⟨bt2, ebt2⟩ : ∃ b, b = w3.heap.size := ⟨_, rfl⟩
  rw [← ebt2] at Rt2 rwt2
  rw [← ebt2]
  have St2 := hide (show SlTx w5 (some ⟨bt2, 0, none⟩) len2 l2 from ⟨unhide hll2, .inr ⟨_, 0, rfl, rwt2⟩⟩)
  clear Rt2 zt2
  have B6 := hide (bTr (unhide B4) hb)
  clear B4
  clear hb rwt2 ebt2
  go_wp2_with fail
  refine (toRecoverEventS_own a3 len3 cap3 l3 _ g3 ((unhide HS3).keep (unhide B6))).mono ?_
  rintro e w7 ⟨rfl, ⟨Ct3, Rt3, zt3, rwt3⟩, hb⟩
  obtain ⟨bt3, ebt3⟩ : ∃ b, b = w5.heap.size := ⟨_, rfl⟩
  rw [← ebt3] at Rt3 rwt3
  rw [← ebt3]
  replace St2 := hide ((unhide St2).keep hb)
  have St3 := hide (show SlRecoverEvent w7 (some ⟨bt3, 0, none⟩) len3 l3 from ⟨unhide hll3, .inr ⟨_, 0, rfl, rwt3⟩⟩)
  clear Rt3 zt3
  have B8 := hide (bTr (unhide B6) hb)
  clear B6
  clear hb rwt3 ebt3
  go_wp2_with fail
  refine (sRunRecovery_any x0 x1 _ len2 _ l2 _ len3 _ l3 _ (unhide HL2) (unhide St2) (unhide HO2) (unhide HL3) (unhide St3) (unhide HO3)).mono ?_
  rintro e w9 ⟨⟨vw0, rw0, rfl, hpw, how0⟩, hb⟩
  replace St2 := hide ((unhide St2).keep hb)
  replace St3 := hide ((unhide St3).keep hb)
  have Ow0 := hide how0
  have low0 := hide (fun g hg => (how0.lt g hg).1)
  have hiw0 := hide (fun g hg => (how0.lt g hg).2)
  have PW := hide hpw
  have LW := hide hpw.len
  have B10 := hide (bTr (unhide B8) hb)
  clear B8
  have BW := hide (unhide B10).size
  clear hb hpw how0
  clear St2
  clear St3
  go_wp2_with fail
  refine (toTxS_own a2 len2 cap2 l2 _ g2 ((unhide HS2).keep (unhide B10))).mono ?_
  rintro e w11 ⟨rfl, ⟨Cx2, Rx2, zx2, rwx2⟩, hb⟩
  obtain ⟨bx2, ebx2⟩ : ∃ b, b = w9.heap.size := ⟨_, rfl⟩
  rw [← ebx2] at Rx2 rwx2
  rw [← ebx2]
  have LX2 := hide (show w9.heap.size ≤ bx2 by rw [ebx2]; exact Nat.le_refl _)
  have ZW2 := hide (show w9.heap.size ≤ w11.heap.size from hb.size)
  replace Ow0 := hide (own_keep (unhide Ow0) hb)
  have Sx2 := hide (show SlTx w11 (some ⟨bx2, 0, none⟩) len2 l2 from ⟨unhide hll2, .inr ⟨_, 0, rfl, rwx2⟩⟩)
  have RX2 := hide Rx2
  have ZX2 := hide (show len2 * 1 ≤ Cx2.size by omega)
  clear Rx2 zx2
  have B12 := hide (bTr (unhide B10) hb)
  clear B10
  clear hb rwx2 ebx2
  go_wp2_with fail
  refine (toRecoverEventS_own a3 len3 cap3 l3 _ g3 ((unhide HS3).keep (unhide B12))).mono ?_
  rintro e w13 ⟨rfl, ⟨Cx3, Rx3, zx3, rwx3⟩, hb⟩
  obtain ⟨bx3, ebx3⟩ : ∃ b, b = w11.heap.size := ⟨_, rfl⟩
  rw [← ebx3] at Rx3 rwx3
  rw [← ebx3]
  have NX23 := hide (show bx2 < bx3 by rw [ebx3]; exact (unhide RX2).lt)
  have LX3 := hide (show w9.heap.size ≤ bx3 by rw [ebx3]; exact unhide ZW2)
  have ZW3 := hide (show w9.heap.size ≤ w13.heap.size from Nat.le_trans (unhide ZW2) hb.size)
  replace Ow0 := hide (own_keep (unhide Ow0) hb)
  replace Sx2 := hide ((unhide Sx2).keep hb)
  replace RX2 := hide ((unhide RX2).keep hb)
  have Sx3 := hide (show SlRecoverEvent w13 (some ⟨bx3, 0, none⟩) len3 l3 from ⟨unhide hll3, .inr ⟨_, 0, rfl, rwx3⟩⟩)
  have RX3 := hide Rx3
  have ZX3 := hide (show len3 * 3 ≤ Cx3.size by omega)
  clear Rx3 zx3
  have B14 := hide (bTr (unhide B12) hb)
  clear B12
  clear hb rwx3 ebx3
  have BG := hide (unhide B14).size
  have LT2 := hide (show bx2 < w13.heap.size from (unhide RX2).lt)
  have LT3 := hide (show bx3 < w13.heap.size from (unhide RX3).lt)
  have WG := hide (show w9.heap.size ≤ w13.heap.size by have h1 := unhide LX2; have h2 := unhide LT2; omega)
  go_wp2_with fail
  refine (iRunRecovery_any x0 x1 _ len2 _ l2 _ len3 _ l3 _ (unhide HL2) (unhide Sx2) (unhide HO2) (unhide HL3) (unhide Sx3) (unhide HO3)).mono ?_
  rintro e w15 ⟨⟨vg0, rg0, rfl, hpg, hog0⟩, hb⟩
  replace Ow0 := hide (own_keep (unhide Ow0) hb)
  replace Sx2 := hide ((unhide Sx2).keep hb)
  replace RX2 := hide ((unhide RX2).keep hb)
  replace Sx3 := hide ((unhide Sx3).keep hb)
  replace RX3 := hide ((unhide RX3).keep hb)
  have Og0 := hide hog0
  have log0 := hide (fun g hg => (hog0.lt g hg).1)
  have hig0 := hide (fun g hg => (hog0.lt g hg).2)
  obtain rfl := hpg.uniq (unhide PW)
  have B16 := hide (bTr (unhide B14) hb)
  clear B14
  clear hb hpg hog0
  go_wp2_with fail
  refine (eqOwnInt (unhide Og0) (unhide Ow0) (by have := unhide LW; omega)).mono ?_
  rintro e w17 ⟨rfl, hb⟩
  replace Ow0 := hide (own_keep (unhide Ow0) hb)
  replace Sx2 := hide ((unhide Sx2).keep hb)
  replace RX2 := hide ((unhide RX2).keep hb)
  replace Sx3 := hide ((unhide Sx3).keep hb)
  replace RX3 := hide ((unhide RX3).keep hb)
  replace Og0 := hide (own_keep (unhide Og0) hb)
  have B18 := hide (bTr (unhide B16) hb)
  clear B16
  clear hb
  go_wp2_with fail
  refine (toTxS_own a2 len2 cap2 l2 _ g2 ((unhide HS2).keep (unhide B18))).mono ?_
  rintro e w19 ⟨rfl, ⟨Cy, Ry, zy, rwy⟩, hb⟩
  replace Ow0 := hide (own_keep (unhide Ow0) hb)
  replace Sx2 := hide ((unhide Sx2).keep hb)
  replace RX2 := hide ((unhide RX2).keep hb)
  replace Sx3 := hide ((unhide Sx3).keep hb)
  replace RX3 := hide ((unhide RX3).keep hb)
  replace Og0 := hide (own_keep (unhide Og0) hb)
  have SY := hide (show SlTx w19 (some ⟨w17.heap.size, 0, none⟩) len2 l2 from ⟨unhide hll2, .inr ⟨_, 0, rfl, rwy⟩⟩)
  have B20 := hide (bTr (unhide B18) hb)
  clear B18
  clear hb Ry zy rwy
  go_wp2_with fail
  refine (eqTxS_same _ _ len2 _ len2 _ l2 _ (unhide Sx2) (unhide SY) (unhide HL2)).mono ?_
  rintro e w21 ⟨rfl, hb⟩
  replace Ow0 := hide (own_keep (unhide Ow0) hb)
  replace Sx2 := hide ((unhide Sx2).keep hb)
  replace RX2 := hide ((unhide RX2).keep hb)
  replace Sx3 := hide ((unhide Sx3).keep hb)
  replace RX3 := hide ((unhide RX3).keep hb)
  replace Og0 := hide (own_keep (unhide Og0) hb)
  have B22 := hide (bTr (unhide B20) hb)
  clear B20
  clear hb SY
  go_wp2_with fail
  refine (toRecoverEventS_own a3 len3 cap3 l3 _ g3 ((unhide HS3).keep (unhide B22))).mono ?_
  rintro e w23 ⟨rfl, ⟨Cy, Ry, zy, rwy⟩, hb⟩
  replace Ow0 := hide (own_keep (unhide Ow0) hb)
  replace Sx2 := hide ((unhide Sx2).keep hb)
  replace RX2 := hide ((unhide RX2).keep hb)
  replace Sx3 := hide ((unhide Sx3).keep hb)
  replace RX3 := hide ((unhide RX3).keep hb)
  replace Og0 := hide (own_keep (unhide Og0) hb)
  have SY := hide (show SlRecoverEvent w23 (some ⟨w21.heap.size, 0, none⟩) len3 l3 from ⟨unhide hll3, .inr ⟨_, 0, rfl, rwy⟩⟩)
  have B24 := hide (bTr (unhide B22) hb)
  clear B22
  clear hb Ry zy rwy
  go_wp2_with fail
  refine (eqRecoverEventS_same _ _ len3 _ len3 _ l3 _ (unhide Sx3) (unhide SY) (unhide HL3)).mono ?_
  rintro e w25 ⟨rfl, hb⟩
  replace Ow0 := hide (own_keep (unhide Ow0) hb)
  replace Sx2 := hide ((unhide Sx2).keep hb)
  replace RX2 := hide ((unhide RX2).keep hb)
  replace Sx3 := hide ((unhide Sx3).keep hb)
  replace RX3 := hide ((unhide RX3).keep hb)
  replace Og0 := hide (own_keep (unhide Og0) hb)
  have B26 := hide (bTr (unhide B24) hb)
  clear B24
  clear hb SY
  clear Sx2
  clear Sx3
  have qk := hide (markTx_row bx2 len2 len2 1 Cx2 _ g2 (by omega) (by omega) (unhide ZX2) (unhide RX2))
  obtain ⟨T2, eT2⟩ : ∃ T, T = 1 + len2 * 1 := ⟨_, rfl⟩
  rw [← eT2] at qk
  have hT2 : 1 ≤ T2 ∧ T2 ≤ 20000000 := by omega
  clear eT2
  go_wp2_with fail
  refine (unhide qk).mono ?_
  rintro e w27 ⟨rfl, _, hg⟩
  clear qk
  clear RX2 ZX2
  replace Ow0 := hide ((unhide Ow0).kept hg (.inr (fun e => by have h1 := unhide hiw0 _ e; have h2 := unhide LX2; omega)))
  replace Og0 := hide ((unhide Og0).kept hg (.inr (fun e => by have h1 := unhide log0 _ e; have h2 := unhide LT2; omega)))
  replace RX3 := hide (row_grown (unhide RX3) hg (by have := unhide NX23; intro e; simp at e; omega))
  have B28 := hide ((unhide B26).grown hg (by have := (unhide B26).size; omega) (fun k h => by cases h; have := unhide LX2; have := unhide BW; omega))
  clear hg B26
  have qk := hide (markRecoverEvent_row bx3 len3 len3 T2 Cx3 _ g3 (by omega) (by omega) (unhide ZX3) (unhide RX3))
  obtain ⟨T3, eT3⟩ : ∃ T, T = T2 + len3 * 3 := ⟨_, rfl⟩
  rw [← eT3] at qk
  have hT3 : 1 ≤ T3 ∧ T3 ≤ 40000000 := by omega
  clear eT3
  go_wp2_with fail
  refine (unhide qk).mono ?_
  rintro e w29 ⟨rfl, _, hg⟩
  clear qk
  clear RX3 ZX3
  replace Ow0 := hide ((unhide Ow0).kept hg (.inr (fun e => by have h1 := unhide hiw0 _ e; have h2 := unhide LX3; omega)))
  replace Og0 := hide ((unhide Og0).kept hg (.inr (fun e => by have h1 := unhide log0 _ e; have h2 := unhide LT3; omega)))
  have B30 := hide ((unhide B28).grown hg (by have := (unhide B28).size; omega) (fun k h => by cases h; have := unhide LX3; have := unhide BW; omega))
  clear hg B28
  have tk : ¬ (T3 : Int) < 0 := by omega
  go_wp2_with fail
  refine (eqOwnInt (unhide Og0) (unhide Ow0) (by have := unhide LW; omega)).mono ?_
  rintro e w31 ⟨rfl, hb⟩
  replace Ow0 := hide (own_keep (unhide Ow0) hb)
  replace Og0 := hide (own_keep (unhide Og0) hb)
  have B32 := hide (bTr (unhide B30) hb)
  clear B30
  clear hb
  have qm := hide (markInt_own vg0 rg0.length 1 _ _ _ (by have := unhide LW; omega) (by omega) (by have := unhide LW; omega) (unhide Og0))
  obtain ⟨M0, eM0⟩ : ∃ M, M = 1 + rg0.length := ⟨_, rfl⟩
  rw [← eM0] at qm
  have hM0 : 1 ≤ M0 ∧ M0 ≤ 20000000 := by have := unhide LW; omega
  have EM0 := hide eM0
  clear eM0
  go_wp2_with fail
  refine (unhide qm).mono ?_
  rintro e w33 ⟨rfl, hM, hg⟩
  clear qm
  replace Ow0 := hide ((unhide Ow0).kept hg (own_ne (fun g e => unhide hiw0 g e) (fun g e => unhide log0 g e) (unhide WG)))
  have MG0 := hide hM
  clear Og0 hM
  have B34 := hide ((unhide B32).grown hg (by have := (unhide B32).size; omega) (fun k h => by have h1 := unhide log0 k h; have := unhide BG; omega))
  clear hg B32
  have qh := hide (heldInt_own vg0 rg0.length 1 _ (by have := unhide LW; omega) (by omega) (by have := unhide LW; omega) (unhide MG0))
  rw [← unhide EM0] at qh
  go_wp2_with fail
  refine (unhide qh).mono ?_
  rintro e w35 ⟨rfl, hb⟩
  clear qh
  replace Ow0 := hide (own_keep (unhide Ow0) hb)
  replace MG0 := hide ((unhide MG0).keep hb)
  have B36 := hide (bTr (unhide B34) hb)
  clear B34
  clear hb
  have th0 : ¬ (M0 : Int) < 0 := by omega
  have tm : ((M0 : Int) != (M0 : Int)) = false := by simp
  go_wp2_with fail
  refine (toTxS_own a2 len2 cap2 l2 _ g2 ((unhide HS2).keep (unhide B36))).mono ?_
  rintro e w37 ⟨rfl, ⟨Cu2, Ru2, zu2, rwu2⟩, hb⟩
  obtain ⟨bu2, ebu2⟩ : ∃ b, b = w35.heap.size := ⟨_, rfl⟩
  rw [← ebu2] at Ru2 rwu2
  rw [← ebu2]
  replace Ow0 := hide (own_keep (unhide Ow0) hb)
  replace MG0 := hide ((unhide MG0).keep hb)
  have Su2 := hide (show SlTx w37 (some ⟨bu2, 0, none⟩) len2 l2 from ⟨unhide hll2, .inr ⟨_, 0, rfl, rwu2⟩⟩)
  clear Ru2 zu2
  have B38 := hide (bTr (unhide B36) hb)
  clear B36
  clear hb rwu2 ebu2
  go_wp2_with fail
  refine (toRecoverEventS_own a3 len3 cap3 l3 _ g3 ((unhide HS3).keep (unhide B38))).mono ?_
  rintro e w39 ⟨rfl, ⟨Cu3, Ru3, zu3, rwu3⟩, hb⟩
  obtain ⟨bu3, ebu3⟩ : ∃ b, b = w37.heap.size := ⟨_, rfl⟩
  rw [← ebu3] at Ru3 rwu3
  rw [← ebu3]
  replace Ow0 := hide (own_keep (unhide Ow0) hb)
  replace MG0 := hide ((unhide MG0).keep hb)
  replace Su2 := hide ((unhide Su2).keep hb)
  have Su3 := hide (show SlRecoverEvent w39 (some ⟨bu3, 0, none⟩) len3 l3 from ⟨unhide hll3, .inr ⟨_, 0, rfl, rwu3⟩⟩)
  clear Ru3 zu3
  have B40 := hide (bTr (unhide B38) hb)
  clear B38
  clear hb rwu3 ebu3
  go_wp2_with fail
  refine (iRunRecovery_any x0 x1 _ len2 _ l2 _ len3 _ l3 _ (unhide HL2) (unhide Su2) (unhide HO2) (unhide HL3) (unhide Su3) (unhide HO3)).mono ?_
  rintro e w41 ⟨⟨vh0, rh0, rfl, hph, hoh0⟩, hb⟩
  replace Ow0 := hide (own_keep (unhide Ow0) hb)
  replace MG0 := hide ((unhide MG0).keep hb)
  replace Su2 := hide ((unhide Su2).keep hb)
  replace Su3 := hide ((unhide Su3).keep hb)
  have Oh0 := hide hoh0
  have loh0 := hide (fun g hg => (hoh0.lt g hg).1)
  have hih0 := hide (fun g hg => (hoh0.lt g hg).2)
  obtain rfl := (unhide PW).uniq hph
  have B42 := hide (bTr (unhide B40) hb)
  clear B40
  clear hb hph hoh0
  clear Su2
  clear Su3
  go_wp2_with fail
  refine (eqOwnInt (unhide Oh0) (unhide Ow0) (by have := unhide LW; omega)).mono ?_
  rintro e w43 ⟨rfl, hb⟩
  replace Ow0 := hide (own_keep (unhide Ow0) hb)
  replace MG0 := hide ((unhide MG0).keep hb)
  replace Oh0 := hide (own_keep (unhide Oh0) hb)
  have B44 := hide (bTr (unhide B42) hb)
  clear B42
  clear hb
  have qh := hide (heldInt_own vg0 rg0.length 1 _ (by have := unhide LW; omega) (by omega) (by have := unhide LW; omega) (unhide MG0))
  rw [← unhide EM0] at qh
  go_wp2_with fail
  refine (unhide qh).mono ?_
  rintro e w45 ⟨rfl, hb⟩
  clear qh
  replace Ow0 := hide (own_keep (unhide Ow0) hb)
  replace MG0 := hide ((unhide MG0).keep hb)
  have B46 := hide (bTr (unhide B44) hb)
  clear B44
  clear hb
  go_wp2_with fail
  go_ret
  exact ⟨rfl, unhide B46⟩

set_option maxRecDepth 100000 in
theorem lifted (os : Os) (started : os.Started) (H : Type) (enc : TypeId × Value → H) :
    ReturnsInHanded {} Try.checked os 3 .any (Rows.fnExactRunRecoverySpec.pre6 enc Try.prog Try.f3 Rows.fnExactRunRecoveryRow.domain false) (Rows.fnExactRunRecoverySpec.post enc Try.prog Try.f3 false true false false) := by
  refine returnsInHanded_of_change (C := Try.checked) own started (by kernel_rfl) Try.func3
    (ChangeSpec.witness6 (enc := enc) (C := Try.checked) false ⟨#[], #[.int .i64 0, .int .i64 0, .slice none 0 0, .slice none 0 0], []⟩ 8 (by kernel_rfl) (by kernel_rfl) (by kernel_rfl) (by kernel_rfl)) ?_
  intro W base args ds gs before hval0 hW hcnd _
  have hval : ∀ (j : Nat) t v, Try.f3.params[j]? = some t → args[j]? = some v → Value.okWide Try.prog W .any base t v := hval0
  have hW' := hW
  obtain ⟨p, q, hA0, hV, rfl, hfz, hnd⟩ := hW
  have hA : DataW.TrodAll enc Try.prog W 0 (fun _ => true) true Try.f3.params.toList args.toList ds p := hA0
  rw [Try.params3] at hA hval
  obtain ⟨v0, vs0, d0, ds0, p0, q0, hargs, rfl, rfl, h0, r0⟩ := trodAll_cons hA
  obtain ⟨v1, vs1, d1, ds1, p1, q1, rfl, rfl, rfl, h1, r1⟩ := trodAll_cons r0
  obtain ⟨v2, vs2, d2, ds2, p2, q2, rfl, rfl, rfl, h2, r2⟩ := trodAll_cons r1
  obtain ⟨v3, vs3, d3, ds3, p3, q3, rfl, rfl, rfl, h3, r3⟩ := trodAll_cons r2
  obtain ⟨rfl, rfl, rfl⟩ := trodAll_nil r3
  obtain rfl : args = #[v0, v1, v2, v3] := by cases args; simp_all
  obtain ⟨rfl, rfl⟩ := trodVars_none hV
  obtain ⟨a0, rfl, rfl, rfl, w0⟩ := open_int Try.underlying3 (hval 0 3 v0 rfl rfl) h0
  obtain ⟨a1, rfl, rfl, rfl, w1⟩ := open_int Try.underlying3 (hval 1 3 v1 rfl rfl) h1
  have k2 := h2
  have lt2 : ∀ x ∈ p2, x.block < W.heap.size := by obtain ⟨m, hm⟩ := k2; exact DataW.trod_lt m _ _ _ hm
  obtain ⟨l2, a2, len2, cap2, e2, s2, o2, m2⟩ := read_Txs (hval 2 22 v2 rfl rfl) h2
  subst e2
  have k3 := h3
  have lt3 : ∀ x ∈ p3, x.block < W.heap.size := by obtain ⟨m, hm⟩ := k3; exact DataW.trod_lt m _ _ _ hm
  obtain ⟨l3, a3, len3, cap3, e3, s3, o3, m3⟩ := read_RecoverEvents (hval 3 23 v3 rfl rfl) h3
  subst e3
  clear hA0 hval0
  refine (walk a0 a1 l2 a2 len2 cap2 l3 a3 len3 cap3 W s2 o2 m2 s3 o3 m3).mono fun e W' ⟨he, bel⟩ => ?_
  subst he
  exact ⟨_, rfl, _, _, _, [], _, [], hW', trodAll_mk1 (shut_bool Try.underlying4 _), (trodAll_cons_mk (shut_int Try.underlying3 w0) (trodAll_cons_mk (shut_int Try.underlying3 w1) (trodAll_cons_mk (Below.trod laidOut (by kernel_rfl) (of_decide_eq_true (by kernel_rfl)) k2 bel lt2) (trodAll_cons_mk (Below.trod laidOut (by kernel_rfl) (of_decide_eq_true (by kernel_rfl)) k3 bel lt3) trodAll_mk0)))), rfl, bel.frame _, fun h => by cases h⟩

theorem over : Rows.fnExactRunRecoveryRow.holds Try.pinned (OpenSpec.ofChange Rows.fnExactRunRecoverySpec) :=
  OpenClaim.holds_of_wide 3 Try.f3 rfl rfl rfl rfl rfl rfl rfl ⟨rfl, rfl, rfl, rfl, rfl⟩ rfl rfl rfl rfl rfl (by kernel_rfl) Try.func3 (by kernel_rfl)
    (of_decide_eq_true (by kernel_rfl)) (by unfold Func.isWrapper; rw [if_neg (by decide +kernel)]; exact ⟨rfl, rfl⟩)
    (fun os started H enc _ => lifted os started H enc)
end Go.Proofs.Ytoikjamafglilaa.fnExactRunRecovery
namespace Go.Proofs.Ytoikjamafglilaa
theorem fnExactRunRecovery_holds : Rows.FnExactRunRecoverySaid := fnExactRunRecovery.over
end Go.Proofs.Ytoikjamafglilaa
