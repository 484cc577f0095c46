/- LawSignedIn, one behind the other. -/
import Derived.Test.YtppkgcedkdeccaaDoorRows
import Derived.Test.YtppkgcedkdeccaaDoorCards
import Derived.Test.YtppkgcedkdeccaaDoorTie
import Derived.Test.YtppkgcedkdeccaaDoorJ10
import Derived.Test.YtppkgcedkdeccaaDoorJ33
import Derived.Test.YtppkgcedkdeccaaDoorJ34
import Derived.WalkKit
import Derived.ProofKit
import Derived.OpenShut
import Derived.ShutString
import Derived.ChangeOld
import Derived.Below
import Derived.Lib.SmallJoins
import Derived.LaidMore
import Derived.ChangeVars
import Derived.SevenTiedAt
import Derived.Stop.Joined
import Derived.ChangeMaps5
/- The row and the card of laws.FnExactSignedIn: its walk, then the row's step. -/
namespace Go.Proofs.YtppkgcedkdeccaaDoor.D.fnExactSignedIn
open Go.ChangeShapes Go.WideShapes Go.ChangeAt Go.RowKit Go.Joins
open Go.ChangeMaps (open_string shut_string)
set_option linter.unusedVariables false
set_option maxRecDepth 100000

set_option maxRecDepth 100000 in
set_option maxHeartbeats 8000000 in
theorem walk (a : Option Addr) (len cap : Nat) (key : List UInt8) (idle most : Int) (l1 : List SessEventT) (a1 : Option Addr) (len1 cap1 : Nat) (t : Int) (w : World) (hs : D.SlB w w.heap.size a len key) (hl : len ≤ maxLen) (hs1 : SlSessEvent w a1 len1 l1) (hok1 : ∀ q ∈ l1, SessEventT.Ok q) (hl1 : len1 ≤ maxLen) (wt : (Lit.int .i64 t).wf = true) (hL : laidMetH Tryd.prog laid4 w) :
    Calls Tryd.prog 4 #[.agg #[.slice a len cap, .int .i64 idle, .int .i64 most], .slice a1 len1 cap1, .int .i64 t] w fun e w' => e = .returned (.bool true) ∧ Below w.heap.size w w' := by
  have HM := hide (mults_of (cells_of_laid4 hL))
  have HT := hide (tab_of_laid4 hL)
  have h00 := (unhide HM).1
  have HK := hide hs
  have HL := hide hl
  have HS1 := hide hs1
  have HO1 := hide hok1
  have HL1 := hide hl1
  have hkl := hide hs.1
  have hll1 := hide hs1.1
  clear hs hl hs1 hok1 hl1 hL
  obtain ⟨W, hW⟩ : ∃ W, W = w.alloc (.cells #[.slice a len cap, .int .i64 idle, .int .i64 most] 37) := ⟨_, rfl⟩
  have RB := hide (show RowIs W w.heap.size #[.slice a len cap, .int .i64 idle, .int .i64 most] 37 by rw [hW]; exact RowIs.new _ _ _)
  have B0 := hide (show Below w.heap.size w W by rw [hW]; exact bAl (Below.refl _ _) _)
  have HW := hide hW.symm
  clear hW
  go_enter Tryd.func4, Tryd.ntmps4
  go_wp2_with fail
  rw [unhide HW]
  clear HW
  refine (szConf_any a len cap idle most _ _ (by omega) (by omega) (unhide HL)).mono ?_
  rintro e w1 ⟨⟨m0, ma0, mb0, mc0, rfl⟩, hb⟩
  replace RB := hide ((unhide RB).keep hb)
  have B1 := hide (bTr (unhide B0) hb)
  clear B0
  clear hb
  by_cases hm0 : m0 < 0
  · go_wp2_with fail
    go_ret
    exact ⟨rfl, unhide B1⟩
  have g0 : len ≤ 1048576 := by omega
  clear mc0
  go_wp2_with fail
  refine (szSessEventS_any a1 len1 cap1 l1 _ _ (by omega) (by omega) (unhide HL1) ((unhide HS1).keep (unhide B1)) (unhide HO1)).mono ?_
  rintro e w2 ⟨⟨m1, ma1, mb1, mc1, rfl⟩, hb⟩
  replace RB := hide ((unhide RB).keep hb)
  have B2 := hide (bTr (unhide B1) hb)
  clear B1
  clear hb
  by_cases hm1 : m1 < 0
  · go_wp2_with fail
    go_ret
    exact ⟨rfl, unhide B2⟩
  have g1 : len1 ≤ 1048576 := by omega
  clear mc1
  have y0 := (unhide RB).at (o := 0) (v := .slice a len cap) rfl
  have y1 := (unhide RB).at (o := 1) (v := .int .i64 idle) rfl
  have y2 := (unhide RB).at (o := 2) (v := .int .i64 most) rfl
  have yz := (unhide RB).lt
  go_wp2_with fail
  clear y0 y1 y2 yz
  refine (toConf_any a len cap key idle most _ g0 (((unhide HK).keep (unhide B2)).mono (unhide B2).size)).mono ?_
  rintro e w3 ⟨⟨kt, rfl, lot, hrt⟩, hb⟩
  replace RB := hide ((unhide RB).keep hb)
  have RKt := hide hrt
  have LKt := hide lot
  have SKt := hide (show D.SlB w3 w3.heap.size (some ⟨kt, 0, none⟩) len key by rw [unhide hkl]; exact D.slB_row hrt hrt.lt)
  have B3 := hide (bTr (unhide B2) hb)
  clear B2
  clear hb hrt lot
  go_wp2_with fail
  refine (toSessEventS_own a1 len1 cap1 l1 _ g1 ((unhide HS1).keep (unhide B3))).mono ?_
  rintro e w4 ⟨rfl, ⟨Cet, Ret, zet, rwet⟩, hb⟩
  obtain ⟨bet, ebet⟩ : ∃ b, b = w3.heap.size := ⟨_, rfl⟩
  rw [← ebet] at Ret rwet
  rw [← ebet]
  replace RB := hide ((unhide RB).keep hb)
  replace RKt := hide ((unhide RKt).keep hb)
  replace SKt := hide (((unhide SKt).keep hb).mono (hb).size)
  have Set := hide (show SlSessEvent w4 (some ⟨bet, 0, none⟩) len1 l1 from ⟨unhide hll1, .inr ⟨_, 0, rfl, rwet⟩⟩)
  have Ret := hide Ret
  have Zet := hide (show len1 * 5 ≤ Cet.size by omega)
  have EBet := hide ebet
  have B4 := hide (bTr (unhide B3) hb)
  clear B3
  clear hb rwet zet ebet
  go_wp2_with fail
  refine (sSignedIn_v _ len _ key idle most _ len1 _ l1 t _ (unhide SKt) (unhide HL1) (unhide Set) (unhide HO1)).mono ?_
  rintro e w5 ⟨⟨vw, rw, rfl, hpw, how⟩, hb⟩
  replace RB := hide ((unhide RB).keep hb)
  replace RKt := hide ((unhide RKt).keep hb)
  replace SKt := hide (((unhide SKt).keep hb).mono (hb).size)
  replace Set := hide ((unhide Set).keep hb)
  replace Ret := hide ((unhide Ret).keep hb)
  have Ow := hide how
  have low := hide (fun g hg => (how.lt g hg).1)
  have hiw := hide (fun g hg => (how.lt g hg).2)
  have PW := hide hpw
  have LW := hide hpw.len
  have B5 := hide (bTr (unhide B4) hb)
  clear B4
  have BN := hide (unhide RB).lt
  have BW := hide (unhide B5).size
  clear hb hpw how
  clear RKt SKt LKt Set Ret Zet EBet
  have y0 := (unhide RB).at (o := 0) (v := .slice a len cap) rfl
  have y1 := (unhide RB).at (o := 1) (v := .int .i64 idle) rfl
  have y2 := (unhide RB).at (o := 2) (v := .int .i64 most) rfl
  have yz := (unhide RB).lt
  go_wp2_with fail
  clear y0 y1 y2 yz
  refine (toConf_any a len cap key idle most _ g0 (((unhide HK).keep (unhide B5)).mono (unhide B5).size)).mono ?_
  rintro e w6 ⟨⟨kx, rfl, lox, hrx⟩, hb⟩
  replace RB := hide ((unhide RB).keep hb)
  replace Ow := hide (Go.Proofs.YtppkgcedkdeccaaDoor.own_keep (unhide Ow) hb)
  have RKx := hide hrx
  have LKx := hide lox
  have SKx := hide (show D.SlB w6 w6.heap.size (some ⟨kx, 0, none⟩) len key by rw [unhide hkl]; exact D.slB_row hrx hrx.lt)
  have B6 := hide (bTr (unhide B5) hb)
  clear B5
  clear hb hrx lox
  have HK2 := hide (unhide SKx)
  have KX1 := hide (show w5.heap.size ≤ kx from unhide LKx)
  have KX2 := hide (unhide RKx).lt
  obtain ⟨W9, hW9⟩ : ∃ W, W = w6.alloc (.cells #[.slice (some ⟨kx, 0, none⟩) len len, .int .i64 idle, .int .i64 most] 24) := ⟨_, rfl⟩
  obtain ⟨bx, ebx⟩ : ∃ b, b = w6.heap.size := ⟨_, rfl⟩
  have hb : Below w6.heap.size w6 W9 := by rw [hW9]; exact bAl (Below.refl _ _) _
  replace RB := hide ((unhide RB).keep hb)
  replace Ow := hide (Go.Proofs.YtppkgcedkdeccaaDoor.own_keep (unhide Ow) hb)
  replace RKx := hide ((unhide RKx).keep hb)
  replace SKx := hide (((unhide SKx).keep hb).mono (hb).size)
  have RX := hide (show RowIs W9 bx #[.slice (some ⟨kx, 0, none⟩) len len, .int .i64 idle, .int .i64 most] 24 by rw [hW9, ebx]; exact RowIs.new _ _ _)
  have EX3 := hide (unhide RX).lt
  have BX1 := hide (show kx < bx by rw [ebx]; exact unhide KX2)
  have HW9 := hide hW9.symm
  have EX := hide ebx
  clear HK2 hW9 ebx
  have B7 := hide (bTr (unhide B6) hb)
  clear B6
  clear hb
  go_upto_region 10 with fail
  refine wp_world (unhide HW9) ?_
  rw [← unhide EX]
  clear HW9
  go_wp2_with fail
  refine (toSessEventS_own a1 len1 cap1 l1 _ g1 ((unhide HS1).keep (unhide B7))).mono ?_
  rintro e w7 ⟨rfl, ⟨Cex, Rex, zex, rwex⟩, hb⟩
  obtain ⟨bex, ebex⟩ : ∃ b, b = W9.heap.size := ⟨_, rfl⟩
  rw [← ebex] at Rex rwex
  rw [← ebex]
  replace RB := hide ((unhide RB).keep hb)
  replace Ow := hide (Go.Proofs.YtppkgcedkdeccaaDoor.own_keep (unhide Ow) hb)
  replace RKx := hide ((unhide RKx).keep hb)
  replace SKx := hide (((unhide SKx).keep hb).mono (hb).size)
  replace RX := hide ((unhide RX).keep hb)
  have Sex := hide (show SlSessEvent w7 (some ⟨bex, 0, none⟩) len1 l1 from ⟨unhide hll1, .inr ⟨_, 0, rfl, rwex⟩⟩)
  have Rex := hide Rex
  have Zex := hide (show len1 * 5 ≤ Cex.size by omega)
  have EBex := hide ebex
  have B8 := hide (bTr (unhide B7) hb)
  clear B7
  clear hb rwex zex ebex
  have EX1 := hide (show W9.heap.size ≤ bex from Nat.le_of_eq (unhide EBex).symm)
  have EX2 := hide (unhide Rex).lt
  have y0 := (unhide RX).at (o := 0) (v := .slice (some ⟨kx, 0, none⟩) len len) rfl
  have y1 := (unhide RX).at (o := 1) (v := .int .i64 idle) rfl
  have y2 := (unhide RX).at (o := 2) (v := .int .i64 most) rfl
  have yz := (unhide RX).lt
  go_wp2_with fail
  clear y0 y1 y2 yz
  refine (iSignedIn_v _ len _ key idle most _ len1 _ l1 t _ (unhide SKx) (unhide HL1) (unhide Sex) (unhide HO1) ((unhide HM).keepB (unhide B8) h00) (Tab.keep (unhide HT) (unhide B8))).mono ?_
  rintro e w8 ⟨⟨vg, rg, rfl, hpg, hog⟩, hb⟩
  replace RB := hide ((unhide RB).keep hb)
  replace Ow := hide (Go.Proofs.YtppkgcedkdeccaaDoor.own_keep (unhide Ow) hb)
  replace RKx := hide ((unhide RKx).keep hb)
  replace SKx := hide (((unhide SKx).keep hb).mono (hb).size)
  replace RX := hide ((unhide RX).keep hb)
  replace Sex := hide ((unhide Sex).keep hb)
  replace Rex := hide ((unhide Rex).keep hb)
  have Og := hide hog
  have log := hide (fun g hg => (hog.lt g hg).1)
  have hig := hide (fun g hg => (hog.lt g hg).2)
  obtain rfl := hpg.uniq (unhide PW)
  have GX := hide (show w7.heap.size ≤ w7.heap.size from Nat.le_refl _)
  have BG := hide (unhide B8).size
  have B9 := hide (bTr (unhide B8) hb)
  clear B8
  clear hb hpg hog
  go_wp2_with fail
  refine (eqOwnSessReply (unhide Og) (unhide Ow) (by have := unhide LW; omega)).mono ?_
  rintro e w9 ⟨rfl, hb⟩
  replace RB := hide ((unhide RB).keep hb)
  replace Ow := hide (Go.Proofs.YtppkgcedkdeccaaDoor.own_keep (unhide Ow) hb)
  replace RKx := hide ((unhide RKx).keep hb)
  replace SKx := hide (((unhide SKx).keep hb).mono (hb).size)
  replace RX := hide ((unhide RX).keep hb)
  replace Sex := hide ((unhide Sex).keep hb)
  replace Rex := hide ((unhide Rex).keep hb)
  replace Og := hide (Go.Proofs.YtppkgcedkdeccaaDoor.own_keep (unhide Og) hb)
  have B10 := hide (bTr (unhide B9) hb)
  clear B9
  clear hb
  go_wp2_with fail
  have B99 := hide (unhide B10).drew
  clear B10
  have RB0 := hide (unhide RB)
  have RX0 := hide (unhide RX)
  replace RB := hide ((unhide RB).keep (Below.refl w9.heap.size w9).drew)
  replace Ow := hide (Go.Proofs.YtppkgcedkdeccaaDoor.own_keep (unhide Ow) (Below.refl w9.heap.size w9).drew)
  replace RKx := hide ((unhide RKx).keep (Below.refl w9.heap.size w9).drew)
  replace SKx := hide (((unhide SKx).keep (Below.refl w9.heap.size w9).drew).mono ((Below.refl w9.heap.size w9).drew).size)
  replace RX := hide ((unhide RX).keep (Below.refl w9.heap.size w9).drew)
  replace Sex := hide ((unhide Sex).keep (Below.refl w9.heap.size w9).drew)
  replace Rex := hide ((unhide Rex).keep (Below.refl w9.heap.size w9).drew)
  replace Og := hide (Go.Proofs.YtppkgcedkdeccaaDoor.own_keep (unhide Og) (Below.refl w9.heap.size w9).drew)
  have RBs := hide (unhide RB)
  have RXs := hide (unhide RX)
  go_region_held3 (fun w' => (w'.cell? ⟨bx, 0, none⟩ = some (.slice (some ⟨kx, 0, none⟩) len len) ∧ w'.cell? ⟨bx, 1, none⟩ = some (.int .i64 idle) ∧ w'.cell? ⟨bx, 2, none⟩ = some (.int .i64 most)) ∧ (w'.cell? ⟨w.heap.size, 0, none⟩ = some (.slice a len cap) ∧ w'.cell? ⟨w.heap.size, 1, none⟩ = some (.int .i64 idle) ∧ w'.cell? ⟨w.heap.size, 2, none⟩ = some (.int .i64 most)))
    (first
      | exact ⟨⟨(unhide RX).at (o := 0) (v := .slice (some ⟨kx, 0, none⟩) len len) rfl, (unhide RX).at (o := 1) (v := .int .i64 idle) rfl, (unhide RX).at (o := 2) (v := .int .i64 most) rfl⟩, ⟨(unhide RB).at (o := 0) (v := .slice a len cap) rfl, (unhide RB).at (o := 1) (v := .int .i64 idle) rfl, (unhide RB).at (o := 2) (v := .int .i64 most) rfl⟩⟩
      | exact ⟨⟨(unhide RXs).at (o := 0) (v := .slice (some ⟨kx, 0, none⟩) len len) rfl, (unhide RXs).at (o := 1) (v := .int .i64 idle) rfl, (unhide RXs).at (o := 2) (v := .int .i64 most) rfl⟩, ⟨(unhide RBs).at (o := 0) (v := .slice a len cap) rfl, (unhide RBs).at (o := 1) (v := .int .i64 idle) rfl, (unhide RBs).at (o := 2) (v := .int .i64 most) rfl⟩⟩
      | exact ⟨⟨(unhide RX0).at (o := 0) (v := .slice (some ⟨kx, 0, none⟩) len len) rfl, (unhide RX0).at (o := 1) (v := .int .i64 idle) rfl, (unhide RX0).at (o := 2) (v := .int .i64 most) rfl⟩, ⟨(unhide RB0).at (o := 0) (v := .slice a len cap) rfl, (unhide RB0).at (o := 1) (v := .int .i64 idle) rfl, (unhide RB0).at (o := 2) (v := .int .i64 most) rfl⟩⟩)
    (first
      | (go_at_call 13; refine (toConf_any a len cap key idle most _ g0 (((unhide HK).keep (unhide B99)).mono (unhide B99).size)).mono ?_; rintro e w10 ⟨⟨ky, rfl, loy, hry⟩, hb⟩; replace RB := hide ((unhide RB).keep hb); replace Ow := hide (Go.Proofs.YtppkgcedkdeccaaDoor.own_keep (unhide Ow) hb); replace RKx := hide ((unhide RKx).keep hb); replace SKx := hide (((unhide SKx).keep hb).mono (hb).size); replace RX := hide ((unhide RX).keep hb); replace Sex := hide ((unhide Sex).keep hb); replace Rex := hide ((unhide Rex).keep hb); replace Og := hide (Go.Proofs.YtppkgcedkdeccaaDoor.own_keep (unhide Og) hb); have SKy := hide (show D.SlB w10 w10.heap.size (some ⟨ky, 0, none⟩) len key by rw [unhide hkl]; exact D.slB_row hry hry.lt); have B11 := hide (bTr (unhide B99) hb); clear B99; clear hb hry loy)
      | (go_at_call 16; refine (eqConf_same _ _ len _ _ key idle most _ g0 (unhide SKx) (unhide SKy)).mono ?_; rintro e w11 ⟨rfl, hb⟩; replace RB := hide ((unhide RB).keep hb); replace Ow := hide (Go.Proofs.YtppkgcedkdeccaaDoor.own_keep (unhide Ow) hb); replace RKx := hide ((unhide RKx).keep hb); replace SKx := hide (((unhide SKx).keep hb).mono (hb).size); replace RX := hide ((unhide RX).keep hb); replace Sex := hide ((unhide Sex).keep hb); replace Rex := hide ((unhide Rex).keep hb); replace Og := hide (Go.Proofs.YtppkgcedkdeccaaDoor.own_keep (unhide Og) hb); replace SKy := hide (((unhide SKy).keep hb).mono (hb).size); have B12 := hide (bTr (unhide B11) hb); clear B11; clear hb))
  clear RXs RBs RX0 RB0
  clear SKy
  go_wp2_with fail
  refine (toSessEventS_own a1 len1 cap1 l1 _ g1 ((unhide HS1).keep (unhide B12))).mono ?_
  rintro e w12 ⟨rfl, ⟨Cey, Rey, zey, rwey⟩, hb⟩
  obtain ⟨bey, ebey⟩ : ∃ b, b = w11.heap.size := ⟨_, rfl⟩
  rw [← ebey] at Rey rwey
  rw [← ebey]
  replace RB := hide ((unhide RB).keep hb)
  replace Ow := hide (Go.Proofs.YtppkgcedkdeccaaDoor.own_keep (unhide Ow) hb)
  replace RKx := hide ((unhide RKx).keep hb)
  replace SKx := hide (((unhide SKx).keep hb).mono (hb).size)
  replace RX := hide ((unhide RX).keep hb)
  replace Sex := hide ((unhide Sex).keep hb)
  replace Rex := hide ((unhide Rex).keep hb)
  replace Og := hide (Go.Proofs.YtppkgcedkdeccaaDoor.own_keep (unhide Og) hb)
  have Sey := hide (show SlSessEvent w12 (some ⟨bey, 0, none⟩) len1 l1 from ⟨unhide hll1, .inr ⟨_, 0, rfl, rwey⟩⟩)
  have Rey := hide Rey
  have Zey := hide (show len1 * 5 ≤ Cey.size by omega)
  have EBey := hide ebey
  have B13 := hide (bTr (unhide B12) hb)
  clear B12
  clear hb rwey zey ebey
  go_wp2_with fail
  refine (eqSessEventS_same _ _ len1 _ len1 _ l1 _ (unhide Sex) (unhide Sey) (unhide HL1)).mono ?_
  rintro e w13 ⟨rfl, hb⟩
  replace RB := hide ((unhide RB).keep hb)
  replace Ow := hide (Go.Proofs.YtppkgcedkdeccaaDoor.own_keep (unhide Ow) hb)
  replace RKx := hide ((unhide RKx).keep hb)
  replace SKx := hide (((unhide SKx).keep hb).mono (hb).size)
  replace RX := hide ((unhide RX).keep hb)
  replace Sex := hide ((unhide Sex).keep hb)
  replace Rex := hide ((unhide Rex).keep hb)
  replace Og := hide (Go.Proofs.YtppkgcedkdeccaaDoor.own_keep (unhide Og) hb)
  replace Sey := hide ((unhide Sey).keep hb)
  replace Rey := hide ((unhide Rey).keep hb)
  have B14 := hide (bTr (unhide B13) hb)
  clear B13
  clear hb
  clear Sey Rey Zey EBey
  clear Sex SKx
  have y0 := (unhide RX).at (o := 0) (v := .slice (some ⟨kx, 0, none⟩) len len) rfl
  have y1 := (unhide RX).at (o := 1) (v := .int .i64 idle) rfl
  have y2 := (unhide RX).at (o := 2) (v := .int .i64 most) rfl
  have yz := (unhide RX).lt
  have qk := hide (markConf_any kx len len (D.cellsOf key) idle most w13 g0 (by simp [D.cellsOf]; rw [unhide hkl]; exact Nat.le_refl _) (unhide RKx))
  obtain ⟨M0, eM0⟩ : ∃ M : Nat, M = 1 + len := ⟨_, rfl⟩
  rw [show (1 + (len : Int)) = ((M0 : Nat) : Int) by omega] at qk
  have hM0 : 1 ≤ M0 ∧ M0 ≤ 2000000 := by omega
  clear eM0
  go_wp2_with fail
  refine (unhide qk).mono ?_
  rintro e w14 ⟨rfl, hg⟩
  clear qk
  clear y0 y1 y2 yz
  replace Ow := hide ((unhide Ow).kept hg (.inr (fun e => by have h1 := unhide hiw _ e; have h2 := unhide KX1; omega)))
  replace Og := hide ((unhide Og).kept hg (.inr (fun e => by have h1 := unhide log _ e; have h2 := unhide BX1; have h3 := unhide EX3; have h4 := unhide EX1; have h5 := unhide EX2; omega)))
  replace RB := hide (row_grown (unhide RB) hg (by have h1 := unhide KX1; have h2 := unhide BN; intro e; simp at e; omega))
  replace Rex := hide (row_grown (unhide Rex) hg (by have h1 := unhide BX1; have h2 := unhide EX1; have h3 := unhide EX3; intro e; simp at e; omega))
  clear RX RKx LKx
  have B15 := hide ((unhide B14).grown hg (by have := (unhide B14).size; omega) (fun k h => by cases h; have := unhide KX1; have := unhide BW; omega))
  clear hg B14
  have qk := hide (markSessEvent_row bex len1 len1 M0 Cex _ g1 (by omega) (by omega) (unhide Zex) (unhide Rex))
  obtain ⟨M1, eM1⟩ : ∃ M, M = M0 + len1 * 5 := ⟨_, rfl⟩
  rw [← eM1] at qk
  have hM1 : 1 ≤ M1 ∧ M1 ≤ 20000000 := by omega
  clear eM1
  go_wp2_with fail
  refine (unhide qk).mono ?_
  rintro e w15 ⟨rfl, _, hg⟩
  clear qk
  clear Rex
  clear Zex
  replace Ow := hide ((unhide Ow).kept hg (.inr (fun e => by have h1 := unhide hiw _ e; have h2 := unhide KX1; have h3 := unhide BX1; have h4 := unhide EX3; have h5 := unhide EX1; omega)))
  replace Og := hide ((unhide Og).kept hg (.inr (fun e => by have h1 := unhide log _ e; have h2 := unhide EX2; omega)))
  replace RB := hide (row_grown (unhide RB) hg (by have h1 := unhide KX1; have h2 := unhide BN; have h3 := unhide BX1; have h4 := unhide EX3; have h5 := unhide EX1; intro e; simp at e; omega))
  have B16 := hide ((unhide B15).grown hg (by have := (unhide B15).size; omega) (fun k h => by cases h; have := unhide KX1; have := unhide BW; have h3 := unhide BX1; have h4 := unhide EX3; have h5 := unhide EX1; omega))
  clear hg B15
  have tk : ¬ (M1 : Int) < 0 := by omega
  go_wp2_with fail
  refine (eqOwnSessReply (unhide Og) (unhide Ow) (by have := unhide LW; omega)).mono ?_
  rintro e w16 ⟨rfl, hb⟩
  replace RB := hide ((unhide RB).keep hb)
  replace Ow := hide (Go.Proofs.YtppkgcedkdeccaaDoor.own_keep (unhide Ow) hb)
  replace Og := hide (Go.Proofs.YtppkgcedkdeccaaDoor.own_keep (unhide Og) hb)
  have B17 := hide (bTr (unhide B16) hb)
  clear B16
  clear hb
  have qm := hide (markSessReply_own vg rg.length 1 _ _ _ (by have := unhide LW; omega) (by omega) (by have := unhide LW; omega) (unhide Og))
  obtain ⟨N0, eN0⟩ : ∃ M, M = 1 + rg.length * 4 := ⟨_, rfl⟩
  rw [← eN0] at qm
  have hN0 : 1 ≤ N0 ∧ N0 ≤ 20000000 := by have := unhide LW; omega
  have EN0 := hide eN0
  clear eN0
  go_wp2_with fail
  refine (unhide qm).mono ?_
  rintro e w17 ⟨rfl, hM, hg⟩
  clear qm
  replace Ow := hide ((unhide Ow).kept hg (own_ne (fun g e => unhide hiw g e) (fun g e => unhide log g e) (by have h2 := unhide KX1; have h3 := unhide BX1; have h4 := unhide EX3; have h5 := unhide EX1; have h6 := unhide EX2; omega)))
  replace RB := hide (row_grown (unhide RB) hg (by intro e; have h1 := unhide log _ e.symm; have h2 := unhide BN; have h3 := unhide BG; have h4 := unhide KX1; have h5 := unhide BX1; have h6 := unhide EX3; have h7 := unhide EX1; have h8 := unhide EX2; omega))
  have MG := hide hM
  clear Og hM
  have B18 := hide ((unhide B17).grown hg (by have := (unhide B17).size; omega) (fun k h => by have h1 := unhide log k h; have h3 := unhide BG; omega))
  clear hg B17
  have qh := hide (heldSessReply_own vg rg.length 1 _ (by have := unhide LW; omega) (by omega) (by have := unhide LW; omega) (unhide MG))
  rw [← unhide EN0] at qh
  go_wp2_with fail
  refine (unhide qh).mono ?_
  rintro e w18 ⟨rfl, hb⟩
  clear qh
  replace RB := hide ((unhide RB).keep hb)
  replace Ow := hide (Go.Proofs.YtppkgcedkdeccaaDoor.own_keep (unhide Ow) hb)
  replace MG := hide ((unhide MG).keep hb)
  have B19 := hide (bTr (unhide B18) hb)
  clear B18
  clear hb
  have th : ¬ (N0 : Int) < 0 := by omega
  have tm : ((N0 : Int) != (N0 : Int)) = false := by simp
  have y0 := (unhide RB).at (o := 0) (v := .slice a len cap) rfl
  have y1 := (unhide RB).at (o := 1) (v := .int .i64 idle) rfl
  have y2 := (unhide RB).at (o := 2) (v := .int .i64 most) rfl
  have yz := (unhide RB).lt
  go_wp2_with fail
  clear y0 y1 y2 yz
  refine (toConf_any a len cap key idle most _ g0 (((unhide HK).keep (unhide B19)).mono (unhide B19).size)).mono ?_
  rintro e w19 ⟨⟨ku, rfl, lou, hru⟩, hb⟩
  replace RB := hide ((unhide RB).keep hb)
  replace Ow := hide (Go.Proofs.YtppkgcedkdeccaaDoor.own_keep (unhide Ow) hb)
  replace MG := hide ((unhide MG).keep hb)
  have RKu := hide hru
  have LKu := hide lou
  have SKu := hide (show D.SlB w19 w19.heap.size (some ⟨ku, 0, none⟩) len key by rw [unhide hkl]; exact D.slB_row hru hru.lt)
  have B20 := hide (bTr (unhide B19) hb)
  clear B19
  clear hb hru lou
  go_wp2_with fail
  refine (toSessEventS_own a1 len1 cap1 l1 _ g1 ((unhide HS1).keep (unhide B20))).mono ?_
  rintro e w20 ⟨rfl, ⟨Ceu, Reu, zeu, rweu⟩, hb⟩
  obtain ⟨beu, ebeu⟩ : ∃ b, b = w19.heap.size := ⟨_, rfl⟩
  rw [← ebeu] at Reu rweu
  rw [← ebeu]
  replace RB := hide ((unhide RB).keep hb)
  replace Ow := hide (Go.Proofs.YtppkgcedkdeccaaDoor.own_keep (unhide Ow) hb)
  replace MG := hide ((unhide MG).keep hb)
  replace RKu := hide ((unhide RKu).keep hb)
  replace SKu := hide (((unhide SKu).keep hb).mono (hb).size)
  have Seu := hide (show SlSessEvent w20 (some ⟨beu, 0, none⟩) len1 l1 from ⟨unhide hll1, .inr ⟨_, 0, rfl, rweu⟩⟩)
  have Reu := hide Reu
  have Zeu := hide (show len1 * 5 ≤ Ceu.size by omega)
  have EBeu := hide ebeu
  have B21 := hide (bTr (unhide B20) hb)
  clear B20
  clear hb rweu zeu ebeu
  go_wp2_with fail
  refine (iSignedIn_v _ len _ key idle most _ len1 _ l1 t _ (unhide SKu) (unhide HL1) (unhide Seu) (unhide HO1) ((unhide HM).keepB (unhide B21) h00) (Tab.keep (unhide HT) (unhide B21))).mono ?_
  rintro e w21 ⟨⟨vh, rh, rfl, hph, hoh⟩, hb⟩
  replace RB := hide ((unhide RB).keep hb)
  replace Ow := hide (Go.Proofs.YtppkgcedkdeccaaDoor.own_keep (unhide Ow) hb)
  replace MG := hide ((unhide MG).keep hb)
  replace RKu := hide ((unhide RKu).keep hb)
  replace SKu := hide (((unhide SKu).keep hb).mono (hb).size)
  replace Seu := hide ((unhide Seu).keep hb)
  replace Reu := hide ((unhide Reu).keep hb)
  have Oh := hide hoh
  obtain rfl := (unhide PW).uniq hph
  have B22 := hide (bTr (unhide B21) hb)
  clear B21
  clear hb hph hoh
  clear RKu SKu LKu Seu Reu Zeu EBeu
  go_wp2_with fail
  refine (eqOwnSessReply (unhide Oh) (unhide Ow) (by have := unhide LW; omega)).mono ?_
  rintro e w22 ⟨rfl, hb⟩
  replace RB := hide ((unhide RB).keep hb)
  replace Ow := hide (Go.Proofs.YtppkgcedkdeccaaDoor.own_keep (unhide Ow) hb)
  replace MG := hide ((unhide MG).keep hb)
  replace Oh := hide (Go.Proofs.YtppkgcedkdeccaaDoor.own_keep (unhide Oh) hb)
  have B23 := hide (bTr (unhide B22) hb)
  clear B22
  clear hb
  have qh := hide (heldSessReply_own vg rg.length 1 _ (by have := unhide LW; omega) (by omega) (by have := unhide LW; omega) (unhide MG))
  rw [← unhide EN0] at qh
  go_wp2_with fail
  refine (unhide qh).mono ?_
  rintro e w23 ⟨rfl, hb⟩
  clear qh
  replace RB := hide ((unhide RB).keep hb)
  replace Ow := hide (Go.Proofs.YtppkgcedkdeccaaDoor.own_keep (unhide Ow) hb)
  replace MG := hide ((unhide MG).keep hb)
  have B24 := hide (bTr (unhide B23) hb)
  clear B23
  clear hb
  go_wp2_with fail
  go_ret
  exact ⟨rfl, unhide B24⟩

theorem lifted (os : Os) (started : os.Started) (H : Type) (enc : TypeId × Value → H) :
    ReturnsInHanded {} Tryd.checked os 4 .any (fun w args => (Rows.fnExactSignedInSpec.pre enc Tryd.prog Tryd.f4 [] false w args ∧ laidMetH Tryd.prog D.laid4 w) ∧ sizedMet enc Tryd.prog Tryd.f4 (OpenSpec.ofChange Rows.fnExactSignedInSpec) false w args)
      (Rows.fnExactSignedInSpec.post enc Tryd.prog Tryd.f4 false true false false) := by
  refine returnsInHanded_of_change_and (C := Tryd.checked) (X := fun w _ => laidMetH Tryd.prog D.laid4 w) (fun _ _ _ hh h => h.of_heap hh) own started (by kernel_rfl) Tryd.func4
    (ChangeSpec.witness_shaped (enc := enc) (C := Tryd.checked) (os := os) (X := fun w _ => laidMetH Tryd.prog D.laid4 w) false (World.doorLaid Tryd.prog 400 os) #[.agg #[.slice none 0 0, .int .i64 0, .int .i64 0], .slice none 0 0, .int .i64 0] 8 rfl (World.shaped_of_RefB (by kernel_rfl) (by kernel_rfl)) (by kernel_rfl) (by kernel_rfl) (by kernel_rfl) (door_met4 os _)) ?_
  intro W base args ds gs before hval0 hW _ _ hL _
  have hval : ∀ (j : Nat) t v, Tryd.f4.params[j]? = some t → args[j]? = some v → Value.okWide Tryd.prog W .any base t v := hval0
  have hW' := hW
  obtain ⟨p, q, hA0, hV0, rfl, hfz, hnd⟩ := hW
  have hA : DataW.TrodAll enc Tryd.prog W 0 (fun _ => true) true Tryd.f4.params.toList args.toList ds p := hA0
  have hV : DataW.TrodVars enc Tryd.prog W (fun _ => true) ["loop.example/g00036/impl.multipliers"] gs q := hV0
  rw [Tryd.params4] at hA hval
  obtain ⟨v0, vs0, d0, ds0, p0, q0, hargs, rfl, rfl, h0, r0⟩ := trodAll_cons hA
  obtain ⟨v1, vs1, d1, ds1, p1, q1, rfl, rfl, rfl, h1, r1⟩ := trodAll_cons r0
  obtain ⟨v2, vs2, d2, ds2, p2, q2, rfl, rfl, rfl, h2, r2⟩ := trodAll_cons r1
  obtain ⟨rfl, rfl, rfl⟩ := trodAll_nil r2
  obtain rfl : args = #[v0, v1, v2] := by cases args; simp_all
  obtain ⟨g, t, cs, fuel, d, p', rfl, hg, ht, hvar, hd, rfl⟩ := trodVars_one hV
  obtain rfl := Option.some.inj (gMul.symm.trans hg)
  obtain rfl := Option.some.inj (tMul.symm.trans ht)
  obtain rfl : cs = cellsM := Option.some.inj (hvar.symm.trans (cells_of_laid4 hL))
  obtain ⟨rfl, rfl⟩ := DataW.Trod.unique (v := .agg cellsM) ⟨fuel, hd⟩ ⟨3, reads_mul enc W _⟩
  have k0 := h0
  have lt0 : ∀ x ∈ p0, x.block < W.heap.size := by obtain ⟨m, hm⟩ := k0; exact DataW.trod_lt m _ _ _ hm
  obtain ⟨a0, len0, cap0, l0, x0, y0, e0, s0, m0⟩ := readv_SessConf (hval 0 37 v0 rfl rfl) h0
  subst e0
  have k1 := h1
  have lt1 : ∀ x ∈ p1, x.block < W.heap.size := by obtain ⟨m, hm⟩ := k1; exact DataW.trod_lt m _ _ _ hm
  obtain ⟨l1, a1, len1, cap1, e1, s1, o1, m1⟩ := read_SessEvents (hval 1 38 v1 rfl rfl) h1
  subst e1
  obtain ⟨a2, rfl, rfl, rfl, w2⟩ := open_int Tryd.underlying3 (hval 2 3 v2 rfl rfl) h2
  clear hA0 hV0 hval0
  have hM := mults_of (cells_of_laid4 hL)
  refine (walk a0 len0 cap0 l0 x0 y0 l1 a1 len1 cap1 a2 W s0 m0 s1 o1 m1 w2 hL).mono fun e W' ⟨he, bel⟩ => ?_
  subst he
  exact ⟨_, rfl, _, _, _, [], _, _, hW', trodAll_mk1 (shut_bool Tryd.underlying4 _), (trodAll_cons_mk (Below.trod laidOut (by kernel_rfl) (of_decide_eq_true (by kernel_rfl)) k0 bel lt0) (trodAll_cons_mk (Below.trod laidOut (by kernel_rfl) (of_decide_eq_true (by kernel_rfl)) k1 bel lt1) (trodAll_cons_mk (shut_int Tryd.underlying3 w2) trodAll_mk0))), vars_kept enc (cells_of_laid4 hL) hM.1 bel, bel.frame _, fun h => by cases h⟩

theorem row : Rows.FnExactSignedInSaid :=
  OpenClaim.holds_of_wide 4 Tryd.f4 rfl rfl rfl rfl rfl rfl rfl ⟨rfl, rfl, rfl, rfl, rfl⟩ rfl rfl rfl rfl rfl (by kernel_rfl) Tryd.func4 (by kernel_rfl)
    (of_decide_eq_true (by kernel_rfl)) (by unfold Func.isWrapper; first | (rw [if_pos (by decide +kernel)]; kernel_rfl) | (rw [if_neg (by decide +kernel)]; exact ⟨rfl, rfl⟩))
    (fun os started H enc _ => lifted os started H enc)
theorem card : Rows.FnExactSignedInCardSaid :=
  Claim7.holds_tied_plain_at .later [] [.data, .data, .data, .data] true (true, "7b8eebcff705b4ebb3ef9004c2f1b26ac1b9b325c13b602507963b32359ddc20") false
    row (fun _ h => by cases h) (by kernel_rfl) (fun _ h => by cases h) fnExactSignedIn_row_tie rfl ⟨rfl, rfl⟩ (by kernel_rfl) rfl
    (fun f fn hf hfn => by
      obtain rfl : f = 4 := Option.some.inj ((show Tryd.prog.funcNamed "loop.example/g00036/laws.FnExactSignedIn" = some 4 by kernel_rfl).symm.trans hf) |>.symm
      obtain rfl : fn = Tryd.f4 := (Option.some.inj (Tryd.func4.symm.trans hfn)).symm
      exact ⟨by kernel_rfl, fun j t ht => by
        rw [Tryd.params4] at ht
        have hm : t ∈ [37, 38, 3] := by simpa using Array.mem_of_getElem? ht
        have hall : ([37, 38, 3].all fun u => !Tryd.prog.wantsStandIn u) = true := by kernel_rfl
        exact (show Tryd.prog.wantsStandIn t = false by simpa using List.all_eq_true.1 hall t hm)⟩)
    (by kernel_rfl)
end Go.Proofs.YtppkgcedkdeccaaDoor.D.fnExactSignedIn
namespace Go.Proofs.YtppkgcedkdeccaaDoor
theorem fnExactSignedIn_holds : Rows.FnExactSignedInCardSaid := D.fnExactSignedIn.card
end Go.Proofs.YtppkgcedkdeccaaDoor
