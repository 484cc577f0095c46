/- BSw, TRs, one behind the other. -/
import Derived.Test.YticidjceljjfnaaGreatDoorJ41
import Derived.Test.YticidjceljjfnaaGreatDoorJ39
import Derived.Deep.RegionHeld3
import Derived.Deep.DeepCutAuto
/- spec.ReadValue. -/
namespace Go.Proofs.YticidjceljjfnaaGreatDoor.V
open Go.RowKit

theorem sReadValue_any (s : ByteArray) (w : World) :
    Calls Tryz.prog 23 #[.string s] w fun e w' => VRdRet s.data.toList w.heap.size e w' ∧ Below w.heap.size w w' := by
  by_cases hz : 60000 < s.size
  · exact sReadValue_big s w hz
  by_cases h2 : s.size < 2
  · exact sReadValue_atom s w (by omega) (.inl h2)
  by_cases h91 : s[0]'(by omega) = 91
  · exact sReadValue_set s w (by omega) (by omega) h91
  by_cases h123 : s[0]'(by omega) = 123
  · exact sReadValue_rec s w (by omega) (by omega) h123
  · exact sReadValue_atom s w (by omega) (.inr ⟨by omega, h91, h123⟩)
end Go.Proofs.YticidjceljjfnaaGreatDoor.V
/- spec.ReadTuple. -/
namespace Go.Proofs.YticidjceljjfnaaGreatDoor.V
open Go.RowKit
set_option maxRecDepth 20000
set_option linter.unusedVariables false
theorem zval_ok : ValT.Ok zVal := ⟨zA_ok, by simp, by simp⟩
structure St2 (s : ByteArray) (w : World) (BT : Nat) (wx : World) (A1 A2 A3 A4 A5 SR REST : ByteArray) : Prop where
  p2 : Sp2 s SR REST
  z1 : SR.size ≤ s.size
  z2 : REST.size ≤ s.size
  T : RowIs wx BT #[.string A1, .string A2, .string A3, .string A4, .string A5, .string SR, .string ⟨#[]⟩, .int .i64 0, .int .i64 0, .int .i64 0, .string ⟨#[]⟩, .string ⟨#[]⟩, .slice none 0 0, .slice none 0 0] 37
  R : RowIs wx w.heap.size zT 37
  B : Below w.heap.size w wx
structure St3 (s : ByteArray) (w : World) (BT : Nat) (wx : World) (A1 A2 A3 A4 A5 SR CAV : ByteArray) (G : ValT) (a1 a2 : Option Addr) (e1 e2 : Nat) : Prop where
  gu : GuessT s.data.toList ⟨A1, A2, A3, A4, A5, SR, CAV, G⟩
  OW : VOwn wx (w.heap.size + 1) G (.slice a1 G.items.length e1) (.slice a2 G.names.length e2)
  T : RowIs wx BT #[.string A1, .string A2, .string A3, .string A4, .string A5, .string SR, .string CAV, .int .i64 G.k, .int .i64 G.a.x, .int .i64 G.a.n, .string G.a.t, .string G.a.y, .slice a1 G.items.length e1, .slice a2 G.names.length e2] 37
  R : RowIs wx w.heap.size zT 37
  B : Below w.heap.size w wx
set_option maxHeartbeats 20000000 in
theorem sReadTuple_any (s : ByteArray) (w : World) (hs : s.size ≤ 1048576) :
    Calls Tryz.prog 10 #[.string s] w fun e w' => TRdRet s.data.toList w.heap.size e w' ∧ Below w.heap.size w w' := by
  have b0 := bAl (Below.refl w.heap.size w) (.cells zT 37)
  have B := hide b0
  have R := hide (RowIs.new w zT 37)
  clear b0
  by_cases hz : s.size ≤ 61000
  · go_enter Tryz.func10, Tryz.ntmps10
    go_wp2_with fail
    refine (until2 ⟨#[58]⟩ s _ (by omega) (by decide)).mono ?_
    rintro e x1 ⟨⟨A1, B1, rfl, v1⟩, hb⟩
    replace R := hide ((unhide R).keep hb)
    replace B := hide (bTr (unhide B) hb)
    clear hb
    have ya1 := (unhide v1).a
    have yb1 := (unhide v1).b
    go_wp2_with fail
    refine (behind2 B1 _ (by omega)).mono ?_
    rintro e z1 ⟨⟨D1, rfl, d1⟩, hb⟩
    replace R := hide ((unhide R).keep hb)
    replace B := hide (bTr (unhide B) hb)
    clear hb
    have yd1 := (unhide d1).2
    go_wp2_with fail
    refine (until2 ⟨#[35]⟩ D1 _ (by omega) (by decide)).mono ?_
    rintro e x2 ⟨⟨A2, B2, rfl, v2⟩, hb⟩
    replace R := hide ((unhide R).keep hb)
    replace B := hide (bTr (unhide B) hb)
    clear hb
    have ya2 := (unhide v2).a
    have yb2 := (unhide v2).b
    go_wp2_with fail
    refine (behind2 B2 _ (by omega)).mono ?_
    rintro e z2 ⟨⟨D2, rfl, d2⟩, hb⟩
    replace R := hide ((unhide R).keep hb)
    replace B := hide (bTr (unhide B) hb)
    clear hb
    have yd2 := (unhide d2).2
    go_wp2_with fail
    refine (until2 ⟨#[64]⟩ D2 _ (by omega) (by decide)).mono ?_
    rintro e x3 ⟨⟨A3, B3, rfl, v3⟩, hb⟩
    replace R := hide ((unhide R).keep hb)
    replace B := hide (bTr (unhide B) hb)
    clear hb
    have ya3 := (unhide v3).a
    have yb3 := (unhide v3).b
    go_wp2_with fail
    refine (behind2 B3 _ (by omega)).mono ?_
    rintro e z3 ⟨⟨D3, rfl, d3⟩, hb⟩
    replace R := hide ((unhide R).keep hb)
    replace B := hide (bTr (unhide B) hb)
    clear hb
    have yd3 := (unhide d3).2
    go_wp2_with fail
    refine (until2 ⟨#[58]⟩ D3 _ (by omega) (by decide)).mono ?_
    rintro e x4 ⟨⟨A4, B4, rfl, v4⟩, hb⟩
    replace R := hide ((unhide R).keep hb)
    replace B := hide (bTr (unhide B) hb)
    clear hb
    have ya4 := (unhide v4).a
    have yb4 := (unhide v4).b
    go_wp2_with fail
    refine (behind2 B4 _ (by omega)).mono ?_
    rintro e z4 ⟨⟨D4, rfl, d4⟩, hb⟩
    replace R := hide ((unhide R).keep hb)
    replace B := hide (bTr (unhide B) hb)
    clear hb
    have yd4 := (unhide d4).2
    go_wp2_with fail
    refine (until2 ⟨#[35, 91]⟩ D4 _ (by omega) (by decide)).mono ?_
    rintro e x5 ⟨⟨A5, B5, rfl, v5⟩, hb⟩
    replace R := hide ((unhide R).keep hb)
    replace B := hide (bTr (unhide B) hb)
    clear hb
    have ya5 := (unhide v5).a
    have yb5 := (unhide v5).b
    have P1 := hide (sp1_of (unhide v1) (unhide d1) (unhide v2) (unhide d2) (unhide v3) (unhide d3) (unhide v4) (unhide d4) (unhide v5))
    clear v1 ya1 yb1 v2 ya2 yb2 v3 ya3 yb3 v4 ya4 yb4 v5 ya5 yb5
    clear d1 yd1 d2 yd2 d3 yd3 d4 yd4
    have ba := bAl (Below.refl x5.heap.size x5) (.cells #[.string A1, .string A2, .string A3, .string A4, .string A5, .string ⟨#[]⟩, .string ⟨#[]⟩, .int .i64 0, .int .i64 0, .int .i64 0, .string ⟨#[]⟩, .string ⟨#[]⟩, .slice none 0 0, .slice none 0 0] 37)
    have T := hide (RowIs.new x5 #[.string A1, .string A2, .string A3, .string A4, .string A5, .string ⟨#[]⟩, .string ⟨#[]⟩, .int .i64 0, .int .i64 0, .int .i64 0, .string ⟨#[]⟩, .string ⟨#[]⟩, .slice none 0 0, .slice none 0 0] 37)
    have lt5 : w.heap.size < x5.heap.size := (unhide R).lt
    replace R := hide ((unhide R).keep ba)
    replace B := hide (bTr (unhide B) ba)
    obtain ⟨W, hW⟩ : ∃ W, W = x5.alloc (.cells #[.string A1, .string A2, .string A3, .string A4, .string A5, .string ⟨#[]⟩, .string ⟨#[]⟩, .int .i64 0, .int .i64 0, .int .i64 0, .string ⟨#[]⟩, .string ⟨#[]⟩, .slice none 0 0, .slice none 0 0] 37) := ⟨_, rfl⟩
    have HW := hide hW.symm
    rw [← hW] at R T B
    obtain ⟨BT, hBT⟩ : ∃ BT, BT = x5.heap.size := ⟨_, rfl⟩
    clear ba hW
    rw [← hBT] at T lt5
    have nb : ¬ w.heap.size = BT := by omega
    have nb2 : ¬ BT = w.heap.size := by omega
    have hs1 : s.size ≤ 1048576 := hs
    go_upto_region 9 with fail
    rw [unhide HW, ← hBT]
    clear HW hBT
    obtain ⟨t5, ht5⟩ : ∃ t5 : Bool, (t5 = true ↔ ∃ r, B5.data.toList = 35 :: r) := ⟨@decide (∃ r, B5.data.toList = 35 :: r) (Classical.propDecidable _), by simp⟩
    have HT5 := hide ht5
    clear ht5
    go_cut [62] (fun c wx => c = .bool t5 ∧ W = wx)
    case first =>
      by_cases h5 : B5 = e0
      · have ef : t5 = false := by
          cases t5 with
          | false => rfl
          | true =>
            obtain ⟨r, hr⟩ := (unhide HT5).1 rfl
            rw [h5] at hr; cases hr
        have h6 := is_emp h5
        clear h5 HT5 P1 R B T
        go_wp2_with fail
        go_meet
        exact ⟨by rw [ef], rfl⟩
      · have hn5 := ne_list h5
        have hp5 := pos_of h5
        obtain ⟨c5, hc5⟩ := drop1_of h5
        obtain ⟨k5, hk5⟩ : ∃ k5, B5[0]'(by omega) = k5 := ⟨_, rfl⟩
        have ck : k5 = c5 := by
          have h0 : B5.data.toList[0]'(by simp; omega) = k5 := by rw [← hk5]; rfl
          have h1 : B5.data.toList[0]? = some c5 := by rw [hc5]; rfl
          rw [List.getElem?_eq_getElem (by simp; omega), h0] at h1
          exact Option.some.inj h1
        subst ck
        have et : t5 = ((k5.toNat : Int) == 35) := by
          rw [Bool.eq_iff_iff, unhide HT5, hc5]
          constructor
          · rintro ⟨r, hr⟩
            rw [(List.cons.inj hr).1]; rfl
          · intro h
            have h2 : (k5.toNat : Int) = 35 := by simpa using h
            have h3 : k5 = 35 := UInt8.toNat_inj.1 (by have h : k5.toNat = 35 := by omega
                                                       rw [h]; rfl)
            exact ⟨_, by rw [h3]⟩
        clear hc5 h5 HT5 P1 R B T
        go_wp2_with fail
        go_meet
        exact ⟨by rw [et], rfl⟩
    case rest =>
      obtain ⟨rfl, rfl⟩ := hcut
      go_upto_if 62 with fail
      go_cut [5, 11, 12] (fun q5 q11 q12 wx => ∃ SR REST : ByteArray, q5 = .string REST ∧ Hid (St2 s w BT wx A1 A2 A3 A4 A5 SR REST))
      case first =>
        cases t5 with
        | false =>
          have S2 := hide (show St2 s w BT W A1 A2 A3 A4 A5 e0 B5 from ⟨sp2_not (unhide P1) (fun r h => by have := (unhide HT5).2 ⟨r, h⟩; cases this), by show 0 ≤ _; omega, (unhide P1).z6, unhide T, unhide R, unhide B⟩)
          clear HT5 P1 R B T
          go_wp2_with fail
          go_meet
          exact ⟨_, _, rfl, S2⟩
        | true =>
          obtain ⟨r, hr⟩ := (unhide HT5).1 rfl
          have h5 : ¬ B5 = e0 := fun h => by rw [h] at hr; cases hr
          have HE := hide (show B5.data.toList = 35 :: (B5.extract 1 B5.size).data.toList by
            obtain ⟨c, hc⟩ := drop1_of h5
            rw [hr] at hc
            rw [hr, (List.cons.inj hc).2])
          have i5 : (1 : Int) ≤ (B5.size : Int) := by have := pos_of h5; omega
          have z5 := (unhide P1).z6
          have zD := hide (show (B5.extract 1 B5.size).size ≤ B5.size by simp)
          have q5 := hide (fun w => until2 ⟨#[91]⟩ (B5.extract 1 B5.size) w (by have := unhide zD; omega) (by decide))
          clear h5 hr HT5
          go_wp2_with fail
          refine (unhide q5 _).mono ?_
          rintro e w5 ⟨⟨A6, B6, rfl, v6⟩, hb5⟩
          replace R := hide ((unhide R).keep hb5)
          replace T := hide ((unhide T).keep hb5)
          replace B := hide (bTr (unhide B) hb5)
          have S2 := hide (show St2 s w BT (w5.setCell ⟨BT, 5, none⟩ (.string A6)) A1 A2 A3 A4 A5 A6 B6 from ⟨sp2_35 (unhide P1) (unhide HE) (unhide v6), by have := (unhide v6).a; have := unhide zD; omega, by have := (unhide v6).b; have := unhide zD; omega, (unhide T).set 5 (.string A6), (unhide R).setOther (o' := 5) (.string A6) nb, below_set (unhide B) (by omega)⟩)
          have d5 := ((unhide T)).at (o := 5) (v := .string ⟨#[]⟩) rfl
          have f5 := ((unhide T)).froz 5
          clear hb5 q5 HE v6 zD z5 P1 R T B i5
          go_wp2_with fail
          go_meet
          exact ⟨_, _, rfl, S2⟩
      case rest =>
        obtain ⟨SR, REST, rfl, H2⟩ := hcut
        clear R T B HT5
        go_upto_region 13 with fail
        obtain ⟨t6, ht6⟩ : ∃ t6 : Bool, (t6 = true ↔ ¬ REST = e0) := ⟨@decide (¬ REST = e0) (Classical.propDecidable _), by simp⟩
        have HT6 := hide ht6
        clear ht6
        go_cut [73] (fun c wx => c = .bool t6 ∧ wc = wx)
        case first =>
          clear P1 H2
          cases t6 with
          | false =>
            have h6 := is_emp (Classical.byContradiction fun h => by have := (unhide HT6).2 h; cases this)
            clear HT6
            go_wp2_with fail
            go_meet
            exact ⟨rfl, rfl⟩
          | true =>
            have h6 := ne_list ((unhide HT6).1 rfl)
            clear HT6
            go_wp2_with fail
            go_meet
            exact ⟨rfl, rfl⟩
        case rest =>
        obtain ⟨rfl, rfl⟩ := hcut
        go_upto_if 73 with fail
        go_cut [13, 14, 15, 16] (fun q13 q14 q15 q16 wx => ∃ (CAV : ByteArray) (G : ValT) (a1 a2 : Option Addr) (e1 e2 : Nat), Hid (St3 s w BT wx A1 A2 A3 A4 A5 SR CAV G a1 a2 e1 e2))
        case first =>
          have P2 := hide (unhide H2).p2
          have T := hide (unhide H2).T
          have R := hide (unhide H2).R
          have B := hide (unhide H2).B
          cases t6 with
          | false =>
            have hR : REST = e0 := Classical.byContradiction fun h => by have := (unhide HT6).2 h; cases this
            have S3 := hide (show St3 s w BT wc A1 A2 A3 A4 A5 SR e0 zVal none none 0 0 from ⟨sp_guess hs (unhide P1) (unhide P2) (sp3_nil (by rw [hR] at P2; exact unhide P2)) (unhide H2).z1 (by show 0 ≤ _; omega) zval_ok, ztup_own wc (w.heap.size + 1), unhide T, unhide R, unhide B⟩)
            clear hR P2 T R B P1 H2
            go_wp2_with fail
            go_meet
            exact ⟨_, _, _, _, _, _, S3⟩
          | true =>
            have hR := (unhide HT6).1 rfl
            have hn := ne_list hR
            have hp := pos_of hR
            have i1 : (1 : Int) ≤ (REST.size : Int) := by omega
            obtain ⟨c, hc⟩ := drop1_of hR
            have HC := hide hc
            clear hc hR
            have zR := hide (unhide H2).z2
            have zD := hide (show (REST.extract 1 REST.size).size ≤ REST.size by simp)
            have q6 := hide (fun w => until2 ⟨#[58]⟩ (REST.extract 1 REST.size) w (by have := unhide zD; have := unhide zR; omega) (by decide))
            go_wp2_with fail
            refine (unhide q6 _).mono ?_
            rintro e w6 ⟨⟨A7, B7, rfl, v7⟩, hb6⟩
            replace R := hide ((unhide R).keep hb6)
            replace T := hide ((unhide T).keep hb6)
            replace B := hide (bTr (unhide B) hb6)
            clear hb6 q6 hn hp i1
            by_cases hl : B7.size < 2
            · have TI := hide (sp3_short (unhide P2) (unhide HC) (unhide v7) hl)
              clear P2 HC v7 H2 P1 T zD zR
              have r0 := ((unhide R)).at (o := 0) (v := .string ⟨#[]⟩) rfl
              have f0 := ((unhide R)).froz 0
              have r1 := ((unhide R)).at (o := 1) (v := .string ⟨#[]⟩) rfl
              have f1 := ((unhide R)).froz 1
              have r2 := ((unhide R)).at (o := 2) (v := .string ⟨#[]⟩) rfl
              have f2 := ((unhide R)).froz 2
              have r3 := ((unhide R)).at (o := 3) (v := .string ⟨#[]⟩) rfl
              have f3 := ((unhide R)).froz 3
              have r4 := ((unhide R)).at (o := 4) (v := .string ⟨#[]⟩) rfl
              have f4 := ((unhide R)).froz 4
              have r5 := ((unhide R)).at (o := 5) (v := .string ⟨#[]⟩) rfl
              have f5 := ((unhide R)).froz 5
              have r6 := ((unhide R)).at (o := 6) (v := .string ⟨#[]⟩) rfl
              have f6 := ((unhide R)).froz 6
              have r7 := ((unhide R)).at (o := 7) (v := .int .i64 0) rfl
              have f7 := ((unhide R)).froz 7
              have r8 := ((unhide R)).at (o := 8) (v := .int .i64 0) rfl
              have f8 := ((unhide R)).froz 8
              have r9 := ((unhide R)).at (o := 9) (v := .int .i64 0) rfl
              have f9 := ((unhide R)).froz 9
              have r10 := ((unhide R)).at (o := 10) (v := .string ⟨#[]⟩) rfl
              have f10 := ((unhide R)).froz 10
              have r11 := ((unhide R)).at (o := 11) (v := .string ⟨#[]⟩) rfl
              have f11 := ((unhide R)).froz 11
              have r12 := ((unhide R)).at (o := 12) (v := .slice none 0 0) rfl
              have f12 := ((unhide R)).froz 12
              have r13 := ((unhide R)).at (o := 13) (v := .slice none 0 0) rfl
              have f13 := ((unhide R)).froz 13
              go_wp2_with fail
              refine bodyPost_ret (v := .tuple #[TRet zTup (.slice none 0 0) (.slice none 0 0), .bool false]) (by simp [results, Tryz.results10, go_sem, TRet, r0, r1, r2, r3, r4, r5, r6, r7, r8, r9, r10, r11, r12, r13]) rfl ⟨⟨_, _, _, _, rfl, ztup_own _ _, hide (unhide TI)⟩, ?_⟩
              exact (below_set (below_set (below_set (below_set (below_set (below_set (below_set (below_set (below_set (below_set (below_set (below_set (below_set (below_set (unhide B) (Nat.le_refl _)) (Nat.le_refl _)) (Nat.le_refl _)) (Nat.le_refl _)) (Nat.le_refl _)) (Nat.le_refl _)) (Nat.le_refl _)) (Nat.le_refl _)) (Nat.le_refl _)) (Nat.le_refl _)) (Nat.le_refl _)) (Nat.le_refl _)) (Nat.le_refl _)) (Nat.le_refl _))
            have i2 : (1 : Int) ≤ (B7.size : Int) - 1 := by omega
            have i3 : (B7.size : Int) - 1 ≤ (B7.size : Int) := by omega
            have i4 : ((B7.size : Int) - 1).toNat = B7.size - 1 := by omega
            have zA := hide (show A7.size ≤ s.size by have := (unhide v7).a; have := unhide zD; have := unhide zR; omega)
            have zB : B7.size ≤ 1048576 := by have := (unhide v7).b; have := unhide zD; have := unhide zR; omega
            have q7 := hide (fun w => sReadValue_any (B7.extract 1 (B7.size - 1)) w)
            go_wp2_with fail
            refine (unhide q7 _).mono ?_
            rintro e w7 ⟨⟨v, v1, v2, ok, rfl, hown, hvi⟩, hb7⟩
            have s7 := hb7.size
            have t7 := (unhide T).lt
            have bw7 := (unhide B).size
            replace R := hide ((unhide R).keep hb7)
            replace T := hide ((unhide T).keep hb7)
            replace B := hide (bTr (unhide B) hb7)
            obtain ⟨a1, e1, hv1⟩ := own_sl hown.i
            subst hv1
            obtain ⟨a2, e2, hv2⟩ := own_sl hown.n
            subst hv2
            have ba := bAl (Below.refl w7.heap.size w7) (.cells #[.int .i64 v.k, .int .i64 v.a.x, .int .i64 v.a.n, .string v.a.t, .string v.a.y, .slice a1 v.items.length e1, .slice a2 v.names.length e2] 35)
            have OW := hide (hown.keep ba)
            have V := hide (RowIs.new w7 #[.int .i64 v.k, .int .i64 v.a.x, .int .i64 v.a.n, .string v.a.t, .string v.a.y, .slice a1 v.items.length e1, .slice a2 v.names.length e2] 35)
            replace R := hide ((unhide R).keep ba)
            replace T := hide ((unhide T).keep ba)
            replace B := hide (bTr (unhide B) ba)
            obtain ⟨W7, hW7⟩ : ∃ W7, W7 = w7.alloc (.cells #[.int .i64 v.k, .int .i64 v.a.x, .int .i64 v.a.n, .string v.a.t, .string v.a.y, .slice a1 v.items.length e1, .slice a2 v.names.length e2] 35) := ⟨_, rfl⟩
            have HW7 := hide hW7.symm
            rw [← hW7] at R T OW B V
            have sW7 : w7.heap.size < W7.heap.size := (unhide V).lt
            clear hb7 ba hown hW7 q7 i2 i3 i4 zB hl
            unfold VRet
            iterate 20 (try (first | go_values | go_skip | go_guarded | go_step | go_upon | go_simp))
            rw [unhide HW7]
            clear HW7
            cases ok with
            | false =>
              have TI := hide (sp3_bad (unhide P2) (unhide HC) (unhide v7) (unhide hvi))
              clear P2 HC v7 H2 P1 T V OW hvi zA zD zR
              have r0 := ((unhide R)).at (o := 0) (v := .string ⟨#[]⟩) rfl
              have f0 := ((unhide R)).froz 0
              have r1 := ((unhide R)).at (o := 1) (v := .string ⟨#[]⟩) rfl
              have f1 := ((unhide R)).froz 1
              have r2 := ((unhide R)).at (o := 2) (v := .string ⟨#[]⟩) rfl
              have f2 := ((unhide R)).froz 2
              have r3 := ((unhide R)).at (o := 3) (v := .string ⟨#[]⟩) rfl
              have f3 := ((unhide R)).froz 3
              have r4 := ((unhide R)).at (o := 4) (v := .string ⟨#[]⟩) rfl
              have f4 := ((unhide R)).froz 4
              have r5 := ((unhide R)).at (o := 5) (v := .string ⟨#[]⟩) rfl
              have f5 := ((unhide R)).froz 5
              have r6 := ((unhide R)).at (o := 6) (v := .string ⟨#[]⟩) rfl
              have f6 := ((unhide R)).froz 6
              have r7 := ((unhide R)).at (o := 7) (v := .int .i64 0) rfl
              have f7 := ((unhide R)).froz 7
              have r8 := ((unhide R)).at (o := 8) (v := .int .i64 0) rfl
              have f8 := ((unhide R)).froz 8
              have r9 := ((unhide R)).at (o := 9) (v := .int .i64 0) rfl
              have f9 := ((unhide R)).froz 9
              have r10 := ((unhide R)).at (o := 10) (v := .string ⟨#[]⟩) rfl
              have f10 := ((unhide R)).froz 10
              have r11 := ((unhide R)).at (o := 11) (v := .string ⟨#[]⟩) rfl
              have f11 := ((unhide R)).froz 11
              have r12 := ((unhide R)).at (o := 12) (v := .slice none 0 0) rfl
              have f12 := ((unhide R)).froz 12
              have r13 := ((unhide R)).at (o := 13) (v := .slice none 0 0) rfl
              have f13 := ((unhide R)).froz 13
              go_wp2_with fail
              refine bodyPost_ret (v := .tuple #[TRet zTup (.slice none 0 0) (.slice none 0 0), .bool false]) (by simp [results, Tryz.results10, go_sem, TRet, r0, r1, r2, r3, r4, r5, r6, r7, r8, r9, r10, r11, r12, r13]) rfl ⟨⟨_, _, _, _, rfl, ztup_own _ _, hide (unhide TI)⟩, ?_⟩
              exact (below_set (below_set (below_set (below_set (below_set (below_set (below_set (below_set (below_set (below_set (below_set (below_set (below_set (below_set (unhide B) (Nat.le_refl _)) (Nat.le_refl _)) (Nat.le_refl _)) (Nat.le_refl _)) (Nat.le_refl _)) (Nat.le_refl _)) (Nat.le_refl _)) (Nat.le_refl _)) (Nat.le_refl _)) (Nat.le_refl _)) (Nat.le_refl _)) (Nat.le_refl _)) (Nat.le_refl _)) (Nat.le_refl _))
            | true =>
              have nv : ¬ w7.heap.size = BT := by omega
              have nv2 : ¬ BT = w7.heap.size := by omega
              have S3 := hide (show St3 s w BT ((((((((W7.setCell ⟨BT, 6, none⟩ (.string A7)).setCell ⟨BT, 7, none⟩ (.int .i64 v.k)).setCell ⟨BT, 8, none⟩ (.int .i64 v.a.x)).setCell ⟨BT, 9, none⟩ (.int .i64 v.a.n)).setCell ⟨BT, 10, none⟩ (.string v.a.t)).setCell ⟨BT, 11, none⟩ (.string v.a.y)).setCell ⟨BT, 12, none⟩ (.slice a1 v.items.length e1)).setCell ⟨BT, 13, none⟩ (.slice a2 v.names.length e2)) A1 A2 A3 A4 A5 SR A7 v a1 a2 e1 e2 from ⟨sp_guess hs (unhide P1) (unhide P2) (sp3_yes (unhide P2) (unhide HC) (unhide v7) (unhide hvi)) (unhide H2).z1 (unhide zA) (vis_ok (unhide hvi)), VOwn.base (base := w6.heap.size) (vown_one (vown_one (vown_one (vown_one (vown_one (vown_one (vown_one (vown_one (unhide OW) (by omega)) (by omega)) (by omega)) (by omega)) (by omega)) (by omega)) (by omega)) (by omega)) (by omega), (((((((((unhide T).set 6 (.string A7)).set 7 (.int .i64 v.k)).set 8 (.int .i64 v.a.x)).set 9 (.int .i64 v.a.n)).set 10 (.string v.a.t)).set 11 (.string v.a.y)).set 12 (.slice a1 v.items.length e1)).set 13 (.slice a2 v.names.length e2)), (((((((((unhide R).setOther (o' := 6) (.string A7) nb).setOther (o' := 7) (.int .i64 v.k) nb).setOther (o' := 8) (.int .i64 v.a.x) nb).setOther (o' := 9) (.int .i64 v.a.n) nb).setOther (o' := 10) (.string v.a.t) nb).setOther (o' := 11) (.string v.a.y) nb).setOther (o' := 12) (.slice a1 v.items.length e1) nb).setOther (o' := 13) (.slice a2 v.names.length e2) nb), (below_set (below_set (below_set (below_set (below_set (below_set (below_set (below_set (unhide B) (by omega)) (by omega)) (by omega)) (by omega)) (by omega)) (by omega)) (by omega)) (by omega))⟩)
              have v0 := ((unhide V)).at (o := 0) (v := .int .i64 v.k) rfl
              have v1 := ((unhide V)).at (o := 1) (v := .int .i64 v.a.x) rfl
              have v2 := ((unhide V)).at (o := 2) (v := .int .i64 v.a.n) rfl
              have v3 := ((unhide V)).at (o := 3) (v := .string v.a.t) rfl
              have v4 := ((unhide V)).at (o := 4) (v := .string v.a.y) rfl
              have v5 := ((unhide V)).at (o := 5) (v := .slice a1 v.items.length e1) rfl
              have v6 := ((unhide V)).at (o := 6) (v := .slice a2 v.names.length e2) rfl
              have d6 := ((unhide T)).at (o := 6) (v := .string ⟨#[]⟩) rfl
              have f6 := ((unhide T)).froz 6
              have d7 := ((unhide T)).at (o := 7) (v := .int .i64 0) rfl
              have f7 := ((unhide T)).froz 7
              have d8 := ((unhide T)).at (o := 8) (v := .int .i64 0) rfl
              have f8 := ((unhide T)).froz 8
              have d9 := ((unhide T)).at (o := 9) (v := .int .i64 0) rfl
              have f9 := ((unhide T)).froz 9
              have d10 := ((unhide T)).at (o := 10) (v := .string ⟨#[]⟩) rfl
              have f10 := ((unhide T)).froz 10
              have d11 := ((unhide T)).at (o := 11) (v := .string ⟨#[]⟩) rfl
              have f11 := ((unhide T)).froz 11
              have d12 := ((unhide T)).at (o := 12) (v := .slice none 0 0) rfl
              have f12 := ((unhide T)).froz 12
              have d13 := ((unhide T)).at (o := 13) (v := .slice none 0 0) rfl
              have f13 := ((unhide T)).froz 13
              clear P2 HC v7 H2 P1 T R B V OW hvi zA zD zR
              go_wp2_with fail
              go_meet
              exact ⟨_, _, _, _, _, _, S3⟩
        case rest =>
          obtain ⟨CAV, G, a1, a2, e1, e2, S3⟩ := hcut
          clear P1 H2
          have T := hide (unhide S3).T
          have R := hide (unhide S3).R
          have B := hide (unhide S3).B
          have OW := hide (unhide S3).OW
          have gu := hide (unhide S3).gu
          have LI := hide (show G.items.length ≤ maxLen by
            rcases (unhide OW).i.2 with ⟨_, h⟩ | ⟨_, _, _, _, _, _, h3, h4, _⟩
            · rw [h]; unfold maxLen; omega
            · omega)
          clear S3
          have qf := hide (sTupleText_any ⟨A1, A2, A3, A4, A5, SR, CAV, G⟩ (unhide gu).ok a1 a2 G.items.length e1 G.names.length e2 _ (unhide LI) (sla_own (unhide OW).i) (sls_own (unhide OW).n))
          have d0 := ((unhide T)).at (o := 0) (v := .string A1) rfl
          have d1 := ((unhide T)).at (o := 1) (v := .string A2) rfl
          have d2 := ((unhide T)).at (o := 2) (v := .string A3) rfl
          have d3 := ((unhide T)).at (o := 3) (v := .string A4) rfl
          have d4 := ((unhide T)).at (o := 4) (v := .string A5) rfl
          have d5 := ((unhide T)).at (o := 5) (v := .string SR) rfl
          have d6 := ((unhide T)).at (o := 6) (v := .string CAV) rfl
          have d7 := ((unhide T)).at (o := 7) (v := .int .i64 G.k) rfl
          have d8 := ((unhide T)).at (o := 8) (v := .int .i64 G.a.x) rfl
          have d9 := ((unhide T)).at (o := 9) (v := .int .i64 G.a.n) rfl
          have d10 := ((unhide T)).at (o := 10) (v := .string G.a.t) rfl
          have d11 := ((unhide T)).at (o := 11) (v := .string G.a.y) rfl
          have d12 := ((unhide T)).at (o := 12) (v := .slice a1 G.items.length e1) rfl
          have d13 := ((unhide T)).at (o := 13) (v := .slice a2 G.names.length e2) rfl
          go_wp2_with fail
          refine (unhide qf).mono ?_
          rintro e wf ⟨⟨r, rfl, htx⟩, hbf⟩
          have HT := hide htx
          replace R := hide ((unhide R).keep hbf)
          replace T := hide ((unhide T).keep hbf)
          replace OW := hide ((unhide OW).keep hbf)
          replace B := hide (bTr (unhide B) hbf)
          clear hbf qf htx d0 d1 d2 d3 d4 d5 d6 d7 d8 d9 d10 d11 d12 d13
          by_cases hx : r = s
          · have hx2 : (r.toList == s.toList) = true := by rw [hx]; simp
            by_cases hse : s = e0
            · have hse2 := is_emp hse
              have TI := hide (show TIs s.data.toList zTup false by rw [hse]; exact tis_nil)
              clear hx hse
              have r0 := ((unhide R)).at (o := 0) (v := .string ⟨#[]⟩) rfl
              have f0 := ((unhide R)).froz 0
              have r1 := ((unhide R)).at (o := 1) (v := .string ⟨#[]⟩) rfl
              have f1 := ((unhide R)).froz 1
              have r2 := ((unhide R)).at (o := 2) (v := .string ⟨#[]⟩) rfl
              have f2 := ((unhide R)).froz 2
              have r3 := ((unhide R)).at (o := 3) (v := .string ⟨#[]⟩) rfl
              have f3 := ((unhide R)).froz 3
              have r4 := ((unhide R)).at (o := 4) (v := .string ⟨#[]⟩) rfl
              have f4 := ((unhide R)).froz 4
              have r5 := ((unhide R)).at (o := 5) (v := .string ⟨#[]⟩) rfl
              have f5 := ((unhide R)).froz 5
              have r6 := ((unhide R)).at (o := 6) (v := .string ⟨#[]⟩) rfl
              have f6 := ((unhide R)).froz 6
              have r7 := ((unhide R)).at (o := 7) (v := .int .i64 0) rfl
              have f7 := ((unhide R)).froz 7
              have r8 := ((unhide R)).at (o := 8) (v := .int .i64 0) rfl
              have f8 := ((unhide R)).froz 8
              have r9 := ((unhide R)).at (o := 9) (v := .int .i64 0) rfl
              have f9 := ((unhide R)).froz 9
              have r10 := ((unhide R)).at (o := 10) (v := .string ⟨#[]⟩) rfl
              have f10 := ((unhide R)).froz 10
              have r11 := ((unhide R)).at (o := 11) (v := .string ⟨#[]⟩) rfl
              have f11 := ((unhide R)).froz 11
              have r12 := ((unhide R)).at (o := 12) (v := .slice none 0 0) rfl
              have f12 := ((unhide R)).froz 12
              have r13 := ((unhide R)).at (o := 13) (v := .slice none 0 0) rfl
              have f13 := ((unhide R)).froz 13
              go_wp2_with fail
              refine bodyPost_ret (v := .tuple #[TRet zTup (.slice none 0 0) (.slice none 0 0), .bool false]) (by simp [results, Tryz.results10, go_sem, TRet, r0, r1, r2, r3, r4, r5, r6, r7, r8, r9, r10, r11, r12, r13]) rfl ⟨⟨_, _, _, _, rfl, ztup_own _ _, hide (unhide TI)⟩, ?_⟩
              exact (below_set (below_set (below_set (below_set (below_set (below_set (below_set (below_set (below_set (below_set (below_set (below_set (below_set (below_set (unhide B) (Nat.le_refl _)) (Nat.le_refl _)) (Nat.le_refl _)) (Nat.le_refl _)) (Nat.le_refl _)) (Nat.le_refl _)) (Nat.le_refl _)) (Nat.le_refl _)) (Nat.le_refl _)) (Nat.le_refl _)) (Nat.le_refl _)) (Nat.le_refl _)) (Nat.le_refl _)) (Nat.le_refl _))
            · have hse2 := ne_list hse
              have TI := hide ((tis_end (pos_of hse) (unhide gu) (unhide HT)).1 hx)
              clear hx hse HT
              have d0 := ((unhide T)).at (o := 0) (v := .string A1) rfl
              have d1 := ((unhide T)).at (o := 1) (v := .string A2) rfl
              have d2 := ((unhide T)).at (o := 2) (v := .string A3) rfl
              have d3 := ((unhide T)).at (o := 3) (v := .string A4) rfl
              have d4 := ((unhide T)).at (o := 4) (v := .string A5) rfl
              have d5 := ((unhide T)).at (o := 5) (v := .string SR) rfl
              have d6 := ((unhide T)).at (o := 6) (v := .string CAV) rfl
              have d7 := ((unhide T)).at (o := 7) (v := .int .i64 G.k) rfl
              have d8 := ((unhide T)).at (o := 8) (v := .int .i64 G.a.x) rfl
              have d9 := ((unhide T)).at (o := 9) (v := .int .i64 G.a.n) rfl
              have d10 := ((unhide T)).at (o := 10) (v := .string G.a.t) rfl
              have d11 := ((unhide T)).at (o := 11) (v := .string G.a.y) rfl
              have d12 := ((unhide T)).at (o := 12) (v := .slice a1 G.items.length e1) rfl
              have d13 := ((unhide T)).at (o := 13) (v := .slice a2 G.names.length e2) rfl
              have r0 := ((unhide R)).at (o := 0) (v := .string ⟨#[]⟩) rfl
              have f0 := ((unhide R)).froz 0
              have r1 := ((unhide R)).at (o := 1) (v := .string ⟨#[]⟩) rfl
              have f1 := ((unhide R)).froz 1
              have r2 := ((unhide R)).at (o := 2) (v := .string ⟨#[]⟩) rfl
              have f2 := ((unhide R)).froz 2
              have r3 := ((unhide R)).at (o := 3) (v := .string ⟨#[]⟩) rfl
              have f3 := ((unhide R)).froz 3
              have r4 := ((unhide R)).at (o := 4) (v := .string ⟨#[]⟩) rfl
              have f4 := ((unhide R)).froz 4
              have r5 := ((unhide R)).at (o := 5) (v := .string ⟨#[]⟩) rfl
              have f5 := ((unhide R)).froz 5
              have r6 := ((unhide R)).at (o := 6) (v := .string ⟨#[]⟩) rfl
              have f6 := ((unhide R)).froz 6
              have r7 := ((unhide R)).at (o := 7) (v := .int .i64 0) rfl
              have f7 := ((unhide R)).froz 7
              have r8 := ((unhide R)).at (o := 8) (v := .int .i64 0) rfl
              have f8 := ((unhide R)).froz 8
              have r9 := ((unhide R)).at (o := 9) (v := .int .i64 0) rfl
              have f9 := ((unhide R)).froz 9
              have r10 := ((unhide R)).at (o := 10) (v := .string ⟨#[]⟩) rfl
              have f10 := ((unhide R)).froz 10
              have r11 := ((unhide R)).at (o := 11) (v := .string ⟨#[]⟩) rfl
              have f11 := ((unhide R)).froz 11
              have r12 := ((unhide R)).at (o := 12) (v := .slice none 0 0) rfl
              have f12 := ((unhide R)).froz 12
              have r13 := ((unhide R)).at (o := 13) (v := .slice none 0 0) rfl
              have f13 := ((unhide R)).froz 13
              go_wp2_with fail
              refine bodyPost_ret (v := .tuple #[TRet ⟨A1, A2, A3, A4, A5, SR, CAV, G⟩ (.slice a1 G.items.length e1) (.slice a2 G.names.length e2), .bool true]) (by simp [results, Tryz.results10, go_sem, TRet, r0, r1, r2, r3, r4, r5, r6, r7, r8, r9, r10, r11, r12, r13]) rfl ⟨⟨_, _, _, _, rfl, vown_set14 (unhide OW) (by omega) (by omega), TI⟩, ?_⟩
              exact (below_set (below_set (below_set (below_set (below_set (below_set (below_set (below_set (below_set (below_set (below_set (below_set (below_set (below_set (unhide B) (Nat.le_refl _)) (Nat.le_refl _)) (Nat.le_refl _)) (Nat.le_refl _)) (Nat.le_refl _)) (Nat.le_refl _)) (Nat.le_refl _)) (Nat.le_refl _)) (Nat.le_refl _)) (Nat.le_refl _)) (Nat.le_refl _)) (Nat.le_refl _)) (Nat.le_refl _)) (Nat.le_refl _))
          · have hx2 := ne_str hx
            have TI := hide (show TIs s.data.toList zTup false by
              by_cases hse : s = e0
              · rw [hse]; exact tis_nil
              · exact (tis_end (pos_of hse) (unhide gu) (unhide HT)).2 hx)
            clear hx HT
            have r0 := ((unhide R)).at (o := 0) (v := .string ⟨#[]⟩) rfl
            have f0 := ((unhide R)).froz 0
            have r1 := ((unhide R)).at (o := 1) (v := .string ⟨#[]⟩) rfl
            have f1 := ((unhide R)).froz 1
            have r2 := ((unhide R)).at (o := 2) (v := .string ⟨#[]⟩) rfl
            have f2 := ((unhide R)).froz 2
            have r3 := ((unhide R)).at (o := 3) (v := .string ⟨#[]⟩) rfl
            have f3 := ((unhide R)).froz 3
            have r4 := ((unhide R)).at (o := 4) (v := .string ⟨#[]⟩) rfl
            have f4 := ((unhide R)).froz 4
            have r5 := ((unhide R)).at (o := 5) (v := .string ⟨#[]⟩) rfl
            have f5 := ((unhide R)).froz 5
            have r6 := ((unhide R)).at (o := 6) (v := .string ⟨#[]⟩) rfl
            have f6 := ((unhide R)).froz 6
            have r7 := ((unhide R)).at (o := 7) (v := .int .i64 0) rfl
            have f7 := ((unhide R)).froz 7
            have r8 := ((unhide R)).at (o := 8) (v := .int .i64 0) rfl
            have f8 := ((unhide R)).froz 8
            have r9 := ((unhide R)).at (o := 9) (v := .int .i64 0) rfl
            have f9 := ((unhide R)).froz 9
            have r10 := ((unhide R)).at (o := 10) (v := .string ⟨#[]⟩) rfl
            have f10 := ((unhide R)).froz 10
            have r11 := ((unhide R)).at (o := 11) (v := .string ⟨#[]⟩) rfl
            have f11 := ((unhide R)).froz 11
            have r12 := ((unhide R)).at (o := 12) (v := .slice none 0 0) rfl
            have f12 := ((unhide R)).froz 12
            have r13 := ((unhide R)).at (o := 13) (v := .slice none 0 0) rfl
            have f13 := ((unhide R)).froz 13
            go_wp2_with fail
            refine bodyPost_ret (v := .tuple #[TRet zTup (.slice none 0 0) (.slice none 0 0), .bool false]) (by simp [results, Tryz.results10, go_sem, TRet, r0, r1, r2, r3, r4, r5, r6, r7, r8, r9, r10, r11, r12, r13]) rfl ⟨⟨_, _, _, _, rfl, ztup_own _ _, hide (unhide TI)⟩, ?_⟩
            exact (below_set (below_set (below_set (below_set (below_set (below_set (below_set (below_set (below_set (below_set (below_set (below_set (below_set (below_set (unhide B) (Nat.le_refl _)) (Nat.le_refl _)) (Nat.le_refl _)) (Nat.le_refl _)) (Nat.le_refl _)) (Nat.le_refl _)) (Nat.le_refl _)) (Nat.le_refl _)) (Nat.le_refl _)) (Nat.le_refl _)) (Nat.le_refl _)) (Nat.le_refl _)) (Nat.le_refl _)) (Nat.le_refl _))
  · have TI := hide (show TIs s.data.toList zTup false from t_no (fun t' ht hf e => hz (by
      have h1 := tup_61000 ht hf
      rw [e] at h1
      simpa using h1)))
    obtain ⟨W0, hW0⟩ : ∃ W0, W0 = w.alloc (.cells zT 37) := ⟨_, rfl⟩
    have HW0 := hide hW0.symm
    rw [← hW0] at R B
    clear hW0
    go_enter Tryz.func10, Tryz.ntmps10
    iterate 20 (try (first | go_values | go_skip | go_guarded | go_step | go_upon | go_simp))
    rw [unhide HW0]
    clear HW0
    have r0 := ((unhide R)).at (o := 0) (v := .string ⟨#[]⟩) rfl
    have f0 := ((unhide R)).froz 0
    have r1 := ((unhide R)).at (o := 1) (v := .string ⟨#[]⟩) rfl
    have f1 := ((unhide R)).froz 1
    have r2 := ((unhide R)).at (o := 2) (v := .string ⟨#[]⟩) rfl
    have f2 := ((unhide R)).froz 2
    have r3 := ((unhide R)).at (o := 3) (v := .string ⟨#[]⟩) rfl
    have f3 := ((unhide R)).froz 3
    have r4 := ((unhide R)).at (o := 4) (v := .string ⟨#[]⟩) rfl
    have f4 := ((unhide R)).froz 4
    have r5 := ((unhide R)).at (o := 5) (v := .string ⟨#[]⟩) rfl
    have f5 := ((unhide R)).froz 5
    have r6 := ((unhide R)).at (o := 6) (v := .string ⟨#[]⟩) rfl
    have f6 := ((unhide R)).froz 6
    have r7 := ((unhide R)).at (o := 7) (v := .int .i64 0) rfl
    have f7 := ((unhide R)).froz 7
    have r8 := ((unhide R)).at (o := 8) (v := .int .i64 0) rfl
    have f8 := ((unhide R)).froz 8
    have r9 := ((unhide R)).at (o := 9) (v := .int .i64 0) rfl
    have f9 := ((unhide R)).froz 9
    have r10 := ((unhide R)).at (o := 10) (v := .string ⟨#[]⟩) rfl
    have f10 := ((unhide R)).froz 10
    have r11 := ((unhide R)).at (o := 11) (v := .string ⟨#[]⟩) rfl
    have f11 := ((unhide R)).froz 11
    have r12 := ((unhide R)).at (o := 12) (v := .slice none 0 0) rfl
    have f12 := ((unhide R)).froz 12
    have r13 := ((unhide R)).at (o := 13) (v := .slice none 0 0) rfl
    have f13 := ((unhide R)).froz 13
    go_wp2_with fail
    refine bodyPost_ret (v := .tuple #[TRet zTup (.slice none 0 0) (.slice none 0 0), .bool false]) (by simp [results, Tryz.results10, go_sem, TRet, r0, r1, r2, r3, r4, r5, r6, r7, r8, r9, r10, r11, r12, r13]) rfl ⟨⟨_, _, _, _, rfl, ztup_own _ _, hide (unhide TI)⟩, ?_⟩
    exact (below_set (below_set (below_set (below_set (below_set (below_set (below_set (below_set (below_set (below_set (below_set (below_set (below_set (below_set (unhide B) (Nat.le_refl _)) (Nat.le_refl _)) (Nat.le_refl _)) (Nat.le_refl _)) (Nat.le_refl _)) (Nat.le_refl _)) (Nat.le_refl _)) (Nat.le_refl _)) (Nat.le_refl _)) (Nat.le_refl _)) (Nat.le_refl _)) (Nat.le_refl _)) (Nat.le_refl _)) (Nat.le_refl _))
end Go.Proofs.YticidjceljjfnaaGreatDoor.V
