/- spec.l7Form. -/
import Derived.Test.YticidjceljjfnaaGreatDoorTTup
namespace Go.Proofs.YticidjceljjfnaaGreatDoor.V
open Go.RowKit
set_option maxRecDepth 20000

theorem sName_any (s : ByteArray) (hs : s.size ≤ maxLen) (w : World) :
    Calls Tryz.prog 30 #[.string s] w fun e w' => e = .returned (.bool (goodName s)) ∧ Below w.heap.size w w' :=
  (sGoodName_any s hs w).mono fun _ _ ⟨h, hw⟩ => ⟨h, hw ▸ Below.refl _ _⟩
set_option maxHeartbeats 40000000 in
theorem l7Form_any (t : TupT) (ht : t.Ok) (a1 a2 : Option Addr) (l1 c1 l2 c2 : Nat) (w : World) (_hl : l1 ≤ maxLen) (hs1 : SlA w a1 l1 t.g.items) (hs2 : SlS w a2 l2 t.g.names) :
    Calls Tryz.prog 15 #[tAg t a1 l1 c1 a2 l2 c2] w fun e w' => RetB e (Form t) ∧ Below w.heap.size w w' := by
  obtain ⟨W0, hW0⟩ : ∃ W, W = w.alloc (.cells #[.string t.ty, .string t.id, .string t.rel, .string t.sty, .string t.sid, .string t.srel, .string t.cav, .int .i64 t.g.k, .int .i64 t.g.a.x, .int .i64 t.g.a.n, .string t.g.a.t, .string t.g.a.y, .slice a1 l1 c1, .slice a2 l2 c2] 37) := ⟨_, rfl⟩
  have ta : TupAt W0 w.heap.size t (.slice a1 l1 c1) (.slice a2 l2 c2) := by rw [hW0]; exact TupAt.new _ _ _ _ _
  have b0 : Below w.heap.size w W0 := by rw [hW0]; exact bAl (Below.refl _ _) _
  have no := fun (h : ¬ Form t) => (show (false = true ↔ Form t) from ⟨fun h => (by cases h), fun h2 => absurd h2 h⟩)
  have NO := hide no
  have HS1 := hide hs1
  have HS2 := hide hs2
  have TA := hide ta
  have B0 := hide b0
  have HW := hide hW0
  have q0 := hide (fun w => sName_any t.ty ht.h_ty w)
  have q1 := hide (fun w => l7Id_any t.id ht.h_id w)
  have q2 := hide (fun w => sName_any t.rel ht.h_rel w)
  have q3 := hide (fun w => sName_any t.sty ht.h_sty w)
  have q4 := hide (fun w => l7Id_any t.sid ht.h_sid w)
  have q5 := hide (fun w => sName_any t.srel ht.h_srel w)
  have q6 := hide (fun w => sName_any t.cav ht.h_cav w)
  have q7 := hide (fun w => l7Empty_any t.g a1 a2 l1 c1 l2 c2 w hs1.1 hs2.1)
  have q8 := hide (fun w h1 h2 => l6Record_any t.g ht.g a1 a2 l1 c1 l2 c2 w h1 h2)
  clear no hs1 hs2 ta b0 ht _hl
  have d0 := (unhide TA).d0
  go_enter Tryz.func15, Tryz.ntmps15
  go_wp2_with fail
  rw [← unhide HW]
  clear HW
  refine (unhide q0 _).mono ?_
  rintro e w1 ⟨rfl, hb⟩
  obtain ⟨b, hgb⟩ : ∃ b, goodName t.ty = b := ⟨_, rfl⟩
  rw [hgb]
  have B1 := hide (bTr (unhide B0) hb)
  replace TA := hide ((unhide TA).keep hb)
  clear d0 hb q0 B0
  cases b
  · have hn := hide (unhide NO (fun h => (by have := h.p0; rw [hgb] at this; cases this)))
    go_wp2_with fail
    go_ret
    exact ⟨retB (b := false) (unhide hn), unhide B1⟩
  have P0 := hide hgb
  clear hgb
  have d1 := (unhide TA).d1
  go_wp2_with fail
  refine (unhide q1 _).mono ?_
  rintro e w2 ⟨rfl, hb⟩
  obtain ⟨b, hgb⟩ : ∃ b, idB t.id = b := ⟨_, rfl⟩
  rw [hgb]
  have B2 := hide (bTr (unhide B1) hb)
  replace TA := hide ((unhide TA).keep hb)
  clear d1 hb q1 B1
  cases b
  · have hn := hide (unhide NO (fun h => (by have := h.p1; rw [hgb] at this; cases this)))
    go_wp2_with fail
    go_ret
    exact ⟨retB (b := false) (unhide hn), unhide B2⟩
  have P1 := hide hgb
  clear hgb
  have d2 := (unhide TA).d2
  go_wp2_with fail
  refine (unhide q2 _).mono ?_
  rintro e w3 ⟨rfl, hb⟩
  obtain ⟨b, hgb⟩ : ∃ b, goodName t.rel = b := ⟨_, rfl⟩
  rw [hgb]
  have B3 := hide (bTr (unhide B2) hb)
  replace TA := hide ((unhide TA).keep hb)
  clear d2 hb q2 B2
  cases b
  · have hn := hide (unhide NO (fun h => (by have := h.p2; rw [hgb] at this; cases this)))
    go_wp2_with fail
    go_ret
    exact ⟨retB (b := false) (unhide hn), unhide B3⟩
  have P2 := hide hgb
  clear hgb
  have d3 := (unhide TA).d3
  go_wp2_with fail
  refine (unhide q3 _).mono ?_
  rintro e w4 ⟨rfl, hb⟩
  obtain ⟨b, hgb⟩ : ∃ b, goodName t.sty = b := ⟨_, rfl⟩
  rw [hgb]
  have B4 := hide (bTr (unhide B3) hb)
  replace TA := hide ((unhide TA).keep hb)
  clear d3 hb q3 B3
  cases b
  · have hn := hide (unhide NO (fun h => (by have := h.p3; rw [hgb] at this; cases this)))
    go_wp2_with fail
    go_ret
    exact ⟨retB (b := false) (unhide hn), unhide B4⟩
  have P3 := hide hgb
  clear hgb
  by_cases hst : t.sid = ⟨#[42]⟩
  · have d4 := (unhide TA).d4
    rw [hst] at d4
    have P4 := hide (show SubP t.sid from .inl hst)
    clear hst
    by_cases hr : t.srel = ⟨#[]⟩
    · have d5 := (unhide TA).d5
      rw [hr] at d5
      have P5 := hide (show NamP t.srel from .inl hr)
      clear hr
      by_cases hc : t.cav = ⟨#[]⟩
      · have d6 := (unhide TA).d6
        rw [hc] at d6
        have d7 := (unhide TA).d7
        have d8 := (unhide TA).d8
        have d9 := (unhide TA).d9
        have d10 := (unhide TA).d10
        have d11 := (unhide TA).d11
        have d12 := (unhide TA).d12
        have d13 := (unhide TA).d13
        have HC := hide hc
        clear hc
        go_wp2_with fail
        refine (unhide q7 _).mono ?_
        rintro e w' ⟨⟨b, rfl, hgb⟩, hb⟩
        have BB := hide (bTr (unhide B4) hb)
        have HG := hide (show b = true ↔ Form t from ⟨fun h => ⟨unhide P0, unhide P1, unhide P2, unhide P3, unhide P4, unhide P5, .inl (unhide HC), .inl ⟨unhide HC, hgb.1 h⟩⟩, fun h => hgb.2 (h.p7.elim (fun h => h.2) (fun h => absurd (unhide HC) h.1))⟩)
        clear hgb hb d6 d7 d8 d9 d10 d11 d12 d13
        go_wp2_with fail
        go_ret
        exact ⟨retB (unhide HG), unhide BB⟩
      · have hc2 := ne_list hc
        have HC := hide hc
        clear hc
        have d6 := (unhide TA).d6
        go_wp2_with fail
        refine (unhide q6 _).mono ?_
        rintro e w' ⟨rfl, hb⟩
        obtain ⟨b, hgb⟩ : ∃ b, goodName t.cav = b := ⟨_, rfl⟩
        rw [hgb]
        have BB := hide (bTr (unhide B4) hb)
        replace TA := hide ((unhide TA).keep hb)
        clear d6 hb
        cases b
        · have hn := hide (unhide NO (fun h => h.p6.elim (fun h => unhide HC h) (fun h => (by rw [hgb] at h; cases h))))
          go_wp2_with fail
          go_ret
          exact ⟨retB (b := false) (unhide hn), unhide BB⟩
        have P6 := hide hgb
        clear hgb
        have d7 := (unhide TA).d7
        have d8 := (unhide TA).d8
        have d9 := (unhide TA).d9
        have d10 := (unhide TA).d10
        have d11 := (unhide TA).d11
        have d12 := (unhide TA).d12
        have d13 := (unhide TA).d13
        go_wp2_with fail
        refine (unhide q8 _ ((unhide HS1).keep (unhide BB)) ((unhide HS2).keep (unhide BB))).mono ?_
        rintro e w'' ⟨⟨b, rfl, hgb⟩, hb⟩
        have BC := hide (bTr (unhide BB) hb)
        have HG := hide (show b = true ↔ Form t from ⟨fun h => ⟨unhide P0, unhide P1, unhide P2, unhide P3, unhide P4, unhide P5, .inr (unhide P6), .inr ⟨unhide HC, hgb.1 h⟩⟩, fun h => hgb.2 (h.p7.elim (fun h => absurd h.1 (unhide HC)) (fun h => h.2))⟩)
        clear hgb hb d7 d8 d9 d10 d11 d12 d13
        go_wp2_with fail
        go_ret
        exact ⟨retB (unhide HG), unhide BC⟩
    · have hr2 := ne_list hr
      have HR := hide hr
      clear hr
      have d5 := (unhide TA).d5
      go_wp2_with fail
      refine (unhide q5 _).mono ?_
      rintro e w5' ⟨rfl, hb⟩
      obtain ⟨b, hgb⟩ : ∃ b, goodName t.srel = b := ⟨_, rfl⟩
      rw [hgb]
      have B6 := hide (bTr (unhide B4) hb)
      replace TA := hide ((unhide TA).keep hb)
      clear d5 hb
      cases b
      · have hn := hide (unhide NO (fun h => h.p5.elim (fun h => unhide HR h) (fun h => (by rw [hgb] at h; cases h))))
        go_wp2_with fail
        go_ret
        exact ⟨retB (b := false) (unhide hn), unhide B6⟩
      have P5 := hide (show NamP t.srel from .inr hgb)
      clear hgb
      by_cases hc : t.cav = ⟨#[]⟩
      · have d6 := (unhide TA).d6
        rw [hc] at d6
        have d7 := (unhide TA).d7
        have d8 := (unhide TA).d8
        have d9 := (unhide TA).d9
        have d10 := (unhide TA).d10
        have d11 := (unhide TA).d11
        have d12 := (unhide TA).d12
        have d13 := (unhide TA).d13
        have HC := hide hc
        clear hc
        go_wp2_with fail
        refine (unhide q7 _).mono ?_
        rintro e w' ⟨⟨b, rfl, hgb⟩, hb⟩
        have BB := hide (bTr (unhide B6) hb)
        have HG := hide (show b = true ↔ Form t from ⟨fun h => ⟨unhide P0, unhide P1, unhide P2, unhide P3, unhide P4, unhide P5, .inl (unhide HC), .inl ⟨unhide HC, hgb.1 h⟩⟩, fun h => hgb.2 (h.p7.elim (fun h => h.2) (fun h => absurd (unhide HC) h.1))⟩)
        clear hgb hb d6 d7 d8 d9 d10 d11 d12 d13
        go_wp2_with fail
        go_ret
        exact ⟨retB (unhide HG), unhide BB⟩
      · have hc2 := ne_list hc
        have HC := hide hc
        clear hc
        have d6 := (unhide TA).d6
        go_wp2_with fail
        refine (unhide q6 _).mono ?_
        rintro e w' ⟨rfl, hb⟩
        obtain ⟨b, hgb⟩ : ∃ b, goodName t.cav = b := ⟨_, rfl⟩
        rw [hgb]
        have BB := hide (bTr (unhide B6) hb)
        replace TA := hide ((unhide TA).keep hb)
        clear d6 hb
        cases b
        · have hn := hide (unhide NO (fun h => h.p6.elim (fun h => unhide HC h) (fun h => (by rw [hgb] at h; cases h))))
          go_wp2_with fail
          go_ret
          exact ⟨retB (b := false) (unhide hn), unhide BB⟩
        have P6 := hide hgb
        clear hgb
        have d7 := (unhide TA).d7
        have d8 := (unhide TA).d8
        have d9 := (unhide TA).d9
        have d10 := (unhide TA).d10
        have d11 := (unhide TA).d11
        have d12 := (unhide TA).d12
        have d13 := (unhide TA).d13
        go_wp2_with fail
        refine (unhide q8 _ ((unhide HS1).keep (unhide BB)) ((unhide HS2).keep (unhide BB))).mono ?_
        rintro e w'' ⟨⟨b, rfl, hgb⟩, hb⟩
        have BC := hide (bTr (unhide BB) hb)
        have HG := hide (show b = true ↔ Form t from ⟨fun h => ⟨unhide P0, unhide P1, unhide P2, unhide P3, unhide P4, unhide P5, .inr (unhide P6), .inr ⟨unhide HC, hgb.1 h⟩⟩, fun h => hgb.2 (h.p7.elim (fun h => absurd h.1 (unhide HC)) (fun h => h.2))⟩)
        clear hgb hb d7 d8 d9 d10 d11 d12 d13
        go_wp2_with fail
        go_ret
        exact ⟨retB (unhide HG), unhide BC⟩
  · have hst2 : (t.sid.toList == [42]) = false := by
      have := ne_str hst
      rwa [show (⟨#[42]⟩ : ByteArray).toList = [42] by rw [ByteArray.toList_eq]] at this
    have HST := hide hst
    clear hst
    have d4 := (unhide TA).d4
    go_wp2_with fail
    refine (unhide q4 _).mono ?_
    rintro e w5 ⟨rfl, hb⟩
    obtain ⟨b, hgb⟩ : ∃ b, idB t.sid = b := ⟨_, rfl⟩
    rw [hgb]
    have B5 := hide (bTr (unhide B4) hb)
    replace TA := hide ((unhide TA).keep hb)
    clear d4 hb
    cases b
    · have hn := hide (unhide NO (fun h => h.p4.elim (fun h => unhide HST h) (fun h => (by rw [hgb] at h; cases h))))
      go_wp2_with fail
      go_ret
      exact ⟨retB (b := false) (unhide hn), unhide B5⟩
    have P4 := hide (show SubP t.sid from .inr hgb)
    clear hgb
    by_cases hr : t.srel = ⟨#[]⟩
    · have d5 := (unhide TA).d5
      rw [hr] at d5
      have P5 := hide (show NamP t.srel from .inl hr)
      clear hr
      by_cases hc : t.cav = ⟨#[]⟩
      · have d6 := (unhide TA).d6
        rw [hc] at d6
        have d7 := (unhide TA).d7
        have d8 := (unhide TA).d8
        have d9 := (unhide TA).d9
        have d10 := (unhide TA).d10
        have d11 := (unhide TA).d11
        have d12 := (unhide TA).d12
        have d13 := (unhide TA).d13
        have HC := hide hc
        clear hc
        go_wp2_with fail
        refine (unhide q7 _).mono ?_
        rintro e w' ⟨⟨b, rfl, hgb⟩, hb⟩
        have BB := hide (bTr (unhide B5) hb)
        have HG := hide (show b = true ↔ Form t from ⟨fun h => ⟨unhide P0, unhide P1, unhide P2, unhide P3, unhide P4, unhide P5, .inl (unhide HC), .inl ⟨unhide HC, hgb.1 h⟩⟩, fun h => hgb.2 (h.p7.elim (fun h => h.2) (fun h => absurd (unhide HC) h.1))⟩)
        clear hgb hb d6 d7 d8 d9 d10 d11 d12 d13
        go_wp2_with fail
        go_ret
        exact ⟨retB (unhide HG), unhide BB⟩
      · have hc2 := ne_list hc
        have HC := hide hc
        clear hc
        have d6 := (unhide TA).d6
        go_wp2_with fail
        refine (unhide q6 _).mono ?_
        rintro e w' ⟨rfl, hb⟩
        obtain ⟨b, hgb⟩ : ∃ b, goodName t.cav = b := ⟨_, rfl⟩
        rw [hgb]
        have BB := hide (bTr (unhide B5) hb)
        replace TA := hide ((unhide TA).keep hb)
        clear d6 hb
        cases b
        · have hn := hide (unhide NO (fun h => h.p6.elim (fun h => unhide HC h) (fun h => (by rw [hgb] at h; cases h))))
          go_wp2_with fail
          go_ret
          exact ⟨retB (b := false) (unhide hn), unhide BB⟩
        have P6 := hide hgb
        clear hgb
        have d7 := (unhide TA).d7
        have d8 := (unhide TA).d8
        have d9 := (unhide TA).d9
        have d10 := (unhide TA).d10
        have d11 := (unhide TA).d11
        have d12 := (unhide TA).d12
        have d13 := (unhide TA).d13
        go_wp2_with fail
        refine (unhide q8 _ ((unhide HS1).keep (unhide BB)) ((unhide HS2).keep (unhide BB))).mono ?_
        rintro e w'' ⟨⟨b, rfl, hgb⟩, hb⟩
        have BC := hide (bTr (unhide BB) hb)
        have HG := hide (show b = true ↔ Form t from ⟨fun h => ⟨unhide P0, unhide P1, unhide P2, unhide P3, unhide P4, unhide P5, .inr (unhide P6), .inr ⟨unhide HC, hgb.1 h⟩⟩, fun h => hgb.2 (h.p7.elim (fun h => absurd h.1 (unhide HC)) (fun h => h.2))⟩)
        clear hgb hb d7 d8 d9 d10 d11 d12 d13
        go_wp2_with fail
        go_ret
        exact ⟨retB (unhide HG), unhide BC⟩
    · have hr2 := ne_list hr
      have HR := hide hr
      clear hr
      have d5 := (unhide TA).d5
      go_wp2_with fail
      refine (unhide q5 _).mono ?_
      rintro e w5' ⟨rfl, hb⟩
      obtain ⟨b, hgb⟩ : ∃ b, goodName t.srel = b := ⟨_, rfl⟩
      rw [hgb]
      have B6 := hide (bTr (unhide B5) hb)
      replace TA := hide ((unhide TA).keep hb)
      clear d5 hb
      cases b
      · have hn := hide (unhide NO (fun h => h.p5.elim (fun h => unhide HR h) (fun h => (by rw [hgb] at h; cases h))))
        go_wp2_with fail
        go_ret
        exact ⟨retB (b := false) (unhide hn), unhide B6⟩
      have P5 := hide (show NamP t.srel from .inr hgb)
      clear hgb
      by_cases hc : t.cav = ⟨#[]⟩
      · have d6 := (unhide TA).d6
        rw [hc] at d6
        have d7 := (unhide TA).d7
        have d8 := (unhide TA).d8
        have d9 := (unhide TA).d9
        have d10 := (unhide TA).d10
        have d11 := (unhide TA).d11
        have d12 := (unhide TA).d12
        have d13 := (unhide TA).d13
        have HC := hide hc
        clear hc
        go_wp2_with fail
        refine (unhide q7 _).mono ?_
        rintro e w' ⟨⟨b, rfl, hgb⟩, hb⟩
        have BB := hide (bTr (unhide B6) hb)
        have HG := hide (show b = true ↔ Form t from ⟨fun h => ⟨unhide P0, unhide P1, unhide P2, unhide P3, unhide P4, unhide P5, .inl (unhide HC), .inl ⟨unhide HC, hgb.1 h⟩⟩, fun h => hgb.2 (h.p7.elim (fun h => h.2) (fun h => absurd (unhide HC) h.1))⟩)
        clear hgb hb d6 d7 d8 d9 d10 d11 d12 d13
        go_wp2_with fail
        go_ret
        exact ⟨retB (unhide HG), unhide BB⟩
      · have hc2 := ne_list hc
        have HC := hide hc
        clear hc
        have d6 := (unhide TA).d6
        go_wp2_with fail
        refine (unhide q6 _).mono ?_
        rintro e w' ⟨rfl, hb⟩
        obtain ⟨b, hgb⟩ : ∃ b, goodName t.cav = b := ⟨_, rfl⟩
        rw [hgb]
        have BB := hide (bTr (unhide B6) hb)
        replace TA := hide ((unhide TA).keep hb)
        clear d6 hb
        cases b
        · have hn := hide (unhide NO (fun h => h.p6.elim (fun h => unhide HC h) (fun h => (by rw [hgb] at h; cases h))))
          go_wp2_with fail
          go_ret
          exact ⟨retB (b := false) (unhide hn), unhide BB⟩
        have P6 := hide hgb
        clear hgb
        have d7 := (unhide TA).d7
        have d8 := (unhide TA).d8
        have d9 := (unhide TA).d9
        have d10 := (unhide TA).d10
        have d11 := (unhide TA).d11
        have d12 := (unhide TA).d12
        have d13 := (unhide TA).d13
        go_wp2_with fail
        refine (unhide q8 _ ((unhide HS1).keep (unhide BB)) ((unhide HS2).keep (unhide BB))).mono ?_
        rintro e w'' ⟨⟨b, rfl, hgb⟩, hb⟩
        have BC := hide (bTr (unhide BB) hb)
        have HG := hide (show b = true ↔ Form t from ⟨fun h => ⟨unhide P0, unhide P1, unhide P2, unhide P3, unhide P4, unhide P5, .inr (unhide P6), .inr ⟨unhide HC, hgb.1 h⟩⟩, fun h => hgb.2 (h.p7.elim (fun h => absurd h.1 (unhide HC)) (fun h => h.2))⟩)
        clear hgb hb d7 d8 d9 d10 d11 d12 d13
        go_wp2_with fail
        go_ret
        exact ⟨retB (unhide HG), unhide BC⟩
end Go.Proofs.YticidjceljjfnaaGreatDoor.V
