/- YSg, YPo, one behind the other. -/
import Derived.Test.YteaidfighimoiaaGreatJ20
import Derived.Deep.RegionHeld3
import Derived.Test.YteaidfighimoiaaGreatJ24
/- spec.l10Tree, GoodExpr. -/
namespace Go.Proofs.YteaidfighimoiaaGreat.V
open Go.RowKit Go.Maps

def TreeIs (w' : World) (lo : Nat) (l : List ExprT) (e : Ending) : Prop :=
  (¬ GExpr l ∧ ∃ X sa sn sc, e = .returned (.tuple #[agg8 X (.slice sa sn sc), .bool false])) ∨ (GExpr l ∧ ∃ t sa sn sc, e = .returned (.tuple #[agg8 t.n (.slice sa sn sc), .bool true]) ∧ takeT 12 l = some (t, []) ∧ Right t ∧ TrAt 12 w' lo (.slice sa sn sc) t)
theorem GExpr.iff {l : List ExprT} {t : ET} {l' : List ExprT} (h : takeT 12 l = some (t, l')) (h60 : l.length ≤ 60) : GExpr l ↔ (l' = [] ∧ Right t) := by
  constructor
  · rintro ⟨_, t', h'⟩
    obtain ⟨a, b⟩ := (grow_iff 12 _ _ _).1 h'
    rw [h] at a
    simp at a
    obtain ⟨rfl, rfl⟩ := a
    exact ⟨rfl, b⟩
  · rintro ⟨rfl, hr⟩
    exact ⟨h60, t, (grow_iff 12 _ _ _).2 ⟨h, hr⟩⟩
theorem GExpr.no {l : List ExprT} (h : takeT 12 l = none) : ¬ GExpr l := by
  rintro ⟨_, t', h'⟩
  obtain ⟨a, b⟩ := (grow_iff 12 _ _ _).1 h'
  rw [h] at a; cases a

set_option maxRecDepth 20000 in
set_option maxHeartbeats 4000000 in
theorem l10Tree_any (a : Option Addr) (len cap : Nat) (l : List ExprT) (w : World) (hl : len ≤ 1048576) (hs : SlExpr w a len l) (hok : ∀ q ∈ l, OkX q) :
    Calls Tryz.prog 13 #[.slice a len cap] w fun e w' => TreeIs w' w.heap.size l e ∧ Below w.heap.size w w' := by
  by_cases h1 : len < 1 ∨ 60 < len
  · have no : Hid (¬ GExpr l) := hide (by
      rintro ⟨h60, t, h⟩
      rcases h1 with h1 | h1
      · have : l = [] := List.length_eq_zero_iff.1 (by rw [← hs.1]; omega)
        rw [this] at h; cases h
      · rw [← hs.1] at h60; omega)
    clear hs hok
    rcases h1 with h1 | h1
    · go_enter Tryz.func13, Tryz.ntmps13
      go_wp2_with fail
      refine bodyPost_ret (v := .tuple #[agg8 zX (.slice none 0 0), .bool false]) (by simp [results, Tryz.results13, go_sem]) rfl ⟨.inl ⟨unhide no, _, _, _, _, rfl⟩, bAl (Below.refl _ _) _⟩
    · have h2 : ¬ len < 1 := by omega
      go_enter Tryz.func13, Tryz.ntmps13
      go_wp2_with fail
      refine bodyPost_ret (v := .tuple #[agg8 zX (.slice none 0 0), .bool false]) (by simp [results, Tryz.results13, go_sem]) rfl ⟨.inl ⟨unhide no, _, _, _, _, rfl⟩, bAl (Below.refl _ _) _⟩
  have h2 : ¬ len < 1 := fun h => h1 (.inl h)
  have h3 : ¬ 60 < len := fun h => h1 (.inr h)
  have h60 : l.length ≤ 60 := by rw [← hs.1]; omega
  have q := hide (fun w hs => l10Take_any 12 a len cap l 0 1 w (by omega) (by omega) (by omega) hs (Nat.zero_le _))
  have HS := hide hs
  have HO := hide hok
  have R0 := hide (RowIs.new w (row8 zX (.slice none 0 0)) 47)
  have B0 := hide (bAl (Below.refl w.heap.size w) (.cells (row8 zX (.slice none 0 0)) 47))
  have s0 : (w.alloc (.cells (row8 zX (.slice none 0 0)) 47)).heap.size = w.heap.size + 1 := by simp
  clear hs hok h1
  go_enter Tryz.func13, Tryz.ntmps13
  go_wp2_with fail
  refine (unhide q _ ((unhide HS).keep (unhide B0))).mono ?_
  rintro e w1 ⟨hte, hb1⟩
  simp only [TakeEnd, List.drop_zero] at hte
  have R1 := hide ((unhide R0).keep hb1)
  have B1 := hide (bTr (unhide B0) hb1)
  have zl : w.heap.size < w1.heap.size := (unhide R1).lt
  clear R0 B0 q
  rcases hte with ⟨hg, rfl⟩ | ⟨t, at2, s, hg, ha2, rfl, htr⟩
  · have no := hide (GExpr.no hg)
    obtain ⟨W3, hW3⟩ : ∃ W, W = w1.alloc (.cells (row8 zX (.slice none 0 0)) 47) := ⟨_, rfl⟩
    have b3 : Below w1.heap.size w1 W3 := by rw [hW3]; exact bAl (Below.refl _ _) _
    have K3 := show RowIs W3 w1.heap.size (row8 zX (.slice none 0 0)) 47 by rw [hW3]; exact RowIs.new _ _ _
    have Z3 := (unhide R1).keep b3
    have B3 := hide (bTr (unhide B1) b3)
    have HW3 := hide hW3.symm
    have d : ((-1 : Int) == (len : Int)) = false := by simp
    clear hg hb1 b3 hW3 R1 B1
    iterate 20 (try (first | go_values | go_skip | go_guarded | go_step | go_upon | go_simp))
    rw [unhide HW3]
    have k0 := K3.at (o := 0) (v := .int .i64 0) rfl
    have k1 := K3.at (o := 1) (v := .string ⟨#[]⟩) rfl
    have k2 := K3.at (o := 2) (v := .int .i64 0) rfl
    have k3 := K3.at (o := 3) (v := .int .i64 0) rfl
    have k4 := K3.at (o := 4) (v := .string ⟨#[]⟩) rfl
    have k5 := K3.at (o := 5) (v := .string ⟨#[]⟩) rfl
    have k6 := K3.at (o := 6) (v := .int .i64 0) rfl
    have k7 := K3.at (o := 7) (v := .slice none 0 0) rfl
    have j0 := Z3.at (o := 0) (v := .int .i64 0) rfl
    have j1 := Z3.at (o := 1) (v := .string ⟨#[]⟩) rfl
    have j2 := Z3.at (o := 2) (v := .int .i64 0) rfl
    have j3 := Z3.at (o := 3) (v := .int .i64 0) rfl
    have j4 := Z3.at (o := 4) (v := .string ⟨#[]⟩) rfl
    have j5 := Z3.at (o := 5) (v := .string ⟨#[]⟩) rfl
    have j6 := Z3.at (o := 6) (v := .int .i64 0) rfl
    have j7 := Z3.at (o := 7) (v := .slice none 0 0) rfl
    have y0 := Z3.froz 0
    have y1 := Z3.froz 1
    have y2 := Z3.froz 2
    have y3 := Z3.froz 3
    have y4 := Z3.froz 4
    have y5 := Z3.froz 5
    have y6 := Z3.froz 6
    have y7 := Z3.froz 7
    clear K3 Z3 HW3
    go_wp2_with fail
    go_region
    go_wp2_with fail
    refine bodyPost_ret (v := .tuple #[agg8 zX (.slice none 0 0), .bool false]) (by simp [results, Tryz.results13, go_sem, j0, j1, j2, j3, j4, j5, j6, j7]) rfl ⟨.inl ⟨unhide no, _, _, _, _, rfl⟩, ?_⟩
    refine Below.drew ?_
    (repeat (refine Below.setCell ?_ (by simp) _))
    exact unhide B3
  · obtain ⟨Y, hY⟩ : ∃ Y, t.n = Y := ⟨_, rfl⟩
    rw [hY]
    obtain ⟨sa, sc, sn, rfl⟩ : ∃ a cap n, s = .slice a n cap := by obtain ⟨_, _, a, cap, e, _⟩ := htr; exact ⟨_, _, _, e⟩
    obtain ⟨W3, hW3⟩ : ∃ W, W = w1.alloc (.cells (row8 Y (.slice sa sn sc)) 47) := ⟨_, rfl⟩
    have b3 : Below w1.heap.size w1 W3 := by rw [hW3]; exact bAl (Below.refl _ _) _
    have K3 := show RowIs W3 w1.heap.size (row8 Y (.slice sa sn sc)) 47 by rw [hW3]; exact RowIs.new _ _ _
    have Z3 := (unhide R1).keep b3
    have B3 := hide (bTr (unhide B1) b3)
    rw [s0] at htr
    have TR := hide (htr.keptY ((KeptY.refl _ _).below b3 (Nat.le_refl _)))
    have HG := hide hg
    have HY := hide hY
    have HW3 := hide hW3.symm
    have HL := hide (unhide HS).1
    have gi := hide (GExpr.iff hg h60)
    clear hb1 b3 hW3 R1 B1 htr hg hY
    iterate 20 (try (first | go_values | go_skip | go_guarded | go_step | go_upon | go_simp))
    rw [unhide HW3]
    clear HW3
    have k0 := K3.at (o := 0) (v := .int .i64 Y.f0) rfl
    have k1 := K3.at (o := 1) (v := .string Y.f1) rfl
    have k2 := K3.at (o := 2) (v := .int .i64 Y.f2) rfl
    have k3 := K3.at (o := 3) (v := .int .i64 Y.f3) rfl
    have k4 := K3.at (o := 4) (v := .string Y.f4) rfl
    have k5 := K3.at (o := 5) (v := .string Y.f5) rfl
    have k6 := K3.at (o := 6) (v := .int .i64 Y.f6) rfl
    have k7 := K3.at (o := 7) (v := .slice sa sn sc) rfl
    have j0 := Z3.at (o := 0) (v := .int .i64 0) rfl
    have j1 := Z3.at (o := 1) (v := .string ⟨#[]⟩) rfl
    have j2 := Z3.at (o := 2) (v := .int .i64 0) rfl
    have j3 := Z3.at (o := 3) (v := .int .i64 0) rfl
    have j4 := Z3.at (o := 4) (v := .string ⟨#[]⟩) rfl
    have j5 := Z3.at (o := 5) (v := .string ⟨#[]⟩) rfl
    have j6 := Z3.at (o := 6) (v := .int .i64 0) rfl
    have j7 := Z3.at (o := 7) (v := .slice none 0 0) rfl
    have y0 := Z3.froz 0
    have y1 := Z3.froz 1
    have y2 := Z3.froz 2
    have y3 := Z3.froz 3
    have y4 := Z3.froz 4
    have y5 := Z3.froz 5
    have y6 := Z3.froz 6
    have y7 := Z3.froz 7
    by_cases he : at2 = len
    · subst he
      have hd : Hid (l.drop at2 = []) := hide (by rw [unhide HL, List.drop_length])
      obtain ⟨LO, hLO⟩ : ∃ LO, LO = w.heap.size + 1 := ⟨_, rfl⟩
      rw [← hLO] at TR
      have q := hide (fun w h => l10Right_any 12 w LO (.slice sa sn sc) t h (takeT_all 12 l t _ (unhide HG) (unhide HO)).1)
      rw [unhide HY] at q
      have TR' := hide (fun W (h : KeptY LO W3 W) => (unhide TR).keptY h)
      have HLO := hide hLO
      replace K3 := hide K3
      replace Z3 := hide Z3
      have d : ((at2 : Int) == (at2 : Int)) = true := by simp
      clear hLO
      go_wp2_with fail
      go_region_with (go_at_call 29; refine (unhide q _ (unhide TR' _ (by exact ⟨Nat.le_refl _, fun _ _ _ => rfl⟩))).mono ?_; rintro e w4 ⟨⟨b4, rfl, h4⟩, hb4⟩; have H4 := hide h4; have HB4 := hide (undrew hb4); have K4 := (unhide K3).keep (undrew hb4); have Z4 := (unhide Z3).keep (undrew hb4); have a0 := K4.at (o := 0) (v := .int .i64 Y.f0) rfl; have a1 := K4.at (o := 1) (v := .string Y.f1) rfl; have a2 := K4.at (o := 2) (v := .int .i64 Y.f2) rfl; have a3 := K4.at (o := 3) (v := .int .i64 Y.f3) rfl; have a4 := K4.at (o := 4) (v := .string Y.f4) rfl; have a5 := K4.at (o := 5) (v := .string Y.f5) rfl; have a6 := K4.at (o := 6) (v := .int .i64 Y.f6) rfl; have a7 := K4.at (o := 7) (v := .slice sa sn sc) rfl; have m0 := Z4.at (o := 0) (v := .int .i64 0) rfl; have m1 := Z4.at (o := 1) (v := .string ⟨#[]⟩) rfl; have m2 := Z4.at (o := 2) (v := .int .i64 0) rfl; have m3 := Z4.at (o := 3) (v := .int .i64 0) rfl; have m4 := Z4.at (o := 4) (v := .string ⟨#[]⟩) rfl; have m5 := Z4.at (o := 5) (v := .string ⟨#[]⟩) rfl; have m6 := Z4.at (o := 6) (v := .int .i64 0) rfl; have m7 := Z4.at (o := 7) (v := .slice none 0 0) rfl; have o0 := Z4.froz 0; have o1 := Z4.froz 1; have o2 := Z4.froz 2; have o3 := Z4.froz 3; have o4 := Z4.froz 4; have o5 := Z4.froz 5; have o6 := Z4.froz 6; have o7 := Z4.froz 7; clear h4 hb4 K4 Z4)
      all_goals go_wp2_with fail
      all_goals refine bodyPost_ret (v := .tuple #[agg8 Y (.slice sa sn sc), .bool b4]) (by simp [results, Tryz.results13, go_sem, m0, m1, m2, m3, m4, m5, m6, m7]) rfl ⟨?_, ?_⟩
      all_goals (first
        | (refine Below.setCell ?_ (by simp) _; (repeat (refine Below.setCell ?_ (by simp) _)); exact bTr (unhide B3) (unhide HB4))
        | (cases b4 with
          | false => exact .inl ⟨fun h => (by have := (unhide H4).2 ((unhide gi).1 h).2; cases this), _, _, _, _, rfl⟩
          | true =>
            refine .inr ⟨(unhide gi).2 ⟨unhide hd, (unhide H4).1 rfl⟩, t, sa, sn, sc, by rw [unhide HY], by rw [unhide HG, unhide hd], (unhide H4).1 rfl, ?_⟩
            refine (unhide TR' _ ?_).low (by rw [unhide HLO]; omega)
            (repeat (refine KeptY.set ?_ _ _ _ (by rw [unhide HLO]; omega)))
            exact (KeptY.refl _ _).below (unhide HB4) (Nat.le_refl _)))
    · have d : ((at2 : Int) == (len : Int)) = false := by simp; omega
      have no : Hid (¬ GExpr l) := hide (fun h => by
        have := ((unhide gi).1 h).1
        rw [List.drop_eq_nil_iff] at this
        have := unhide HL
        omega)
      clear K3 Z3 gi TR HG HO HS ha2
      go_wp2_with fail
      go_region
      go_wp2_with fail
      refine bodyPost_ret (v := .tuple #[agg8 Y (.slice sa sn sc), .bool false]) (by simp [results, Tryz.results13, go_sem, j0, j1, j2, j3, j4, j5, j6, j7]) rfl ⟨.inl ⟨unhide no, _, _, _, _, rfl⟩, ?_⟩
      refine Below.drew ?_
      (repeat (refine Below.setCell ?_ (by simp) _))
      exact unhide B3

set_option maxHeartbeats 1000000 in
theorem sGoodExpr_any (a : Option Addr) (len cap : Nat) (l : List ExprT) (w : World) (hl : len ≤ 1048576) (hs : SlExpr w a len l) (hok : ∀ q ∈ l, OkX q) :
    Calls Tryz.prog 27 #[.slice a len cap] w fun e w' => RetB e (GExpr l) ∧ Below w.heap.size w w' := by
  have q := hide (l10Tree_any a len cap l w hl hs hok)
  clear hs hok
  go_enter Tryz.func27, Tryz.ntmps27
  go_wp2_with fail
  refine (unhide q).mono ?_
  rintro e w1 ⟨(⟨h, X, sa, sn, sc, rfl⟩ | ⟨h, t, sa, sn, sc, rfl, _⟩), hb1⟩
  · have H := hide h
    clear h q
    go_wp2_with fail
    go_ret
    exact ⟨retB (b := false) ⟨fun h => (by cases h), fun h => absurd h (unhide H)⟩, bAl hb1 _⟩
  · have H := hide h
    clear h q
    generalize t.n = X
    go_wp2_with fail
    go_ret
    exact ⟨retB (b := true) ⟨fun _ => unhide H, fun _ => rfl⟩, bAl hb1 _⟩
end Go.Proofs.YteaidfighimoiaaGreat.V
/- impl.GoodPolicy, spec.GoodPolicy. -/
namespace Go.Proofs.YteaidfighimoiaaGreat.V
open Go.RowKit Go.Maps

structure PolT where
  id : ByteArray
  pm : Bool
  p : HeadT
  a : HeadT
  r : HeadT
  wh : List ExprT
structure PolT.Ok (P : PolT) : Prop where
  id9 : P.id.size ≤ maxLen
  p : P.p.Ok
  a : P.a.Ok
  r : P.r.Ok
  wh : ∀ q ∈ P.wh, ExprT.Ok q
abbrev polRow (P : PolT) (s : Value) : Array Value := #[.string P.id, .bool P.pm, .int .i64 P.p.k, .int .i64 P.p.x, .int .i64 P.p.n, .string P.p.t, .string P.p.y, .string P.p.ty, .int .i64 P.a.k, .int .i64 P.a.x, .int .i64 P.a.n, .string P.a.t, .string P.a.y, .string P.a.ty, .int .i64 P.r.k, .int .i64 P.r.x, .int .i64 P.r.n, .string P.r.t, .string P.r.y, .string P.r.ty, s]
abbrev polAgg (P : PolT) (s : Value) : Value := .agg #[.string P.id, .bool P.pm, .int .i64 P.p.k, .int .i64 P.p.x, .int .i64 P.p.n, .string P.p.t, .string P.p.y, .string P.p.ty, .int .i64 P.a.k, .int .i64 P.a.x, .int .i64 P.a.n, .string P.a.t, .string P.a.y, .string P.a.ty, .int .i64 P.r.k, .int .i64 P.r.x, .int .i64 P.r.n, .string P.r.t, .string P.r.y, .string P.r.ty, s]
def GPol (P : PolT) : Prop := idB P.id = true ∧ HeadP P.p ∧ (HeadP P.a ∧ ¬ (P.a.k = 5 ∨ P.a.k = 6)) ∧ HeadP P.r ∧ (P.wh = [] ∨ GExpr P.wh)

set_option maxRecDepth 20000 in
set_option maxHeartbeats 4000000 in
theorem iGoodPolicy_any (P : PolT) (a : Option Addr) (len cap : Nat) (w : World) (ho : P.Ok) (hl : len ≤ 1048576) (hc : len ≤ cap) (hs : SlExpr w a len P.wh) :
    Calls Tryz.prog 17 #[polAgg P (.slice a len cap)] w fun e w' => RetB e (GPol P) ∧ Below w.heap.size w w' := by
  have q1 := hide (isId_any P.id ho.id9)
  have q2 := hide (fun w => goodHead_any P.p w ho.p)
  have q3 := hide (fun w => goodHead_any P.a w ho.a)
  have q4 := hide (fun w => goodHead_any P.r w ho.r)
  have q5 := hide (isSlot_any P.a)
  have q6 := hide (fun w hs => iGoodExpr_any a len cap P.wh w hl hc hs ho.wh)
  have hwn : Hid (P.wh = [] ↔ len = 0) := hide (by rw [hs.1]; exact List.length_eq_zero_iff.symm)
  have R := hide (RowIs.new w (polRow P (.slice a len cap)) 36)
  have B := hide (bAl (Below.refl w.heap.size w) (.cells (polRow P (.slice a len cap)) 36))
  have HS := hide hs
  clear hs ho hc
  have gp : Hid (GPol P ↔ (idB P.id = true ∧ HeadP P.p ∧ (HeadP P.a ∧ ¬ (P.a.k = 5 ∨ P.a.k = 6)) ∧ HeadP P.r ∧ (P.wh = [] ∨ GExpr P.wh))) := hide Iff.rfl
  obtain ⟨id, pm, p, ac, r, wh⟩ := P
  simp only at *
  generalize idB id = I at *
  go_enter Tryz.func17, Tryz.ntmps17
  go_wp2_with fail
  refine (unhide q1 _).mono ?_
  rintro e w1 ⟨rfl, hb1⟩
  replace R := hide ((unhide R).keep hb1)
  replace B := hide (bTr (unhide B) hb1)
  clear hb1
  have s1 : ∀ c : Bool, I = c → (c = true ↔ I = true) := fun c h => by rw [h]
  cases I
  · have no := hide (show ¬ GPol _ from fun h => (by have := ((unhide gp).1 h).1; cases this))
    clear gp
    go_wp2_with fail
    go_ret
    exact ⟨retB (b := false) ⟨fun h => (by cases h), fun h => absurd h (unhide no)⟩, unhide B⟩
  clear s1
  have c2 := (unhide R).at (o := 2) (v := .int .i64 p.k) rfl
  have c3 := (unhide R).at (o := 3) (v := .int .i64 p.x) rfl
  have c4 := (unhide R).at (o := 4) (v := .int .i64 p.n) rfl
  have c5 := (unhide R).at (o := 5) (v := .string p.t) rfl
  have c6 := (unhide R).at (o := 6) (v := .string p.y) rfl
  have c7 := (unhide R).at (o := 7) (v := .string p.ty) rfl
  go_wp2_with fail
  refine (unhide q2 _).mono ?_
  rintro e w2 ⟨⟨b, rfl, hb⟩, hb1⟩
  clear c2 c3 c4 c5 c6 c7
  replace R := hide ((unhide R).keep hb1)
  replace B := hide (bTr (unhide B) hb1)
  clear hb1
  cases b
  · have hb' : ¬ (HeadP p) := fun h => by have := hb.2 h; cases this
    clear hb
    have no := hide (show ¬ GPol _ from fun h => hb' (((unhide gp).1 h).2.1))
    clear gp hb'
    go_wp2_with fail
    go_ret
    exact ⟨retB (b := false) ⟨fun h => (by cases h), fun h => absurd h (unhide no)⟩, unhide B⟩
  have g_q2 := hide (hb.1 rfl)
  clear hb
  have c8 := (unhide R).at (o := 8) (v := .int .i64 ac.k) rfl
  have c9 := (unhide R).at (o := 9) (v := .int .i64 ac.x) rfl
  have c10 := (unhide R).at (o := 10) (v := .int .i64 ac.n) rfl
  have c11 := (unhide R).at (o := 11) (v := .string ac.t) rfl
  have c12 := (unhide R).at (o := 12) (v := .string ac.y) rfl
  have c13 := (unhide R).at (o := 13) (v := .string ac.ty) rfl
  go_wp2_with fail
  refine (unhide q3 _).mono ?_
  rintro e w3 ⟨⟨b, rfl, hb⟩, hb1⟩
  clear c8 c9 c10 c11 c12 c13
  replace R := hide ((unhide R).keep hb1)
  replace B := hide (bTr (unhide B) hb1)
  clear hb1
  cases b
  · have hb' : ¬ (HeadP ac) := fun h => by have := hb.2 h; cases this
    clear hb
    have no := hide (show ¬ GPol _ from fun h => hb' (((unhide gp).1 h).2.2.1.1))
    clear gp hb'
    go_wp2_with fail
    go_ret
    exact ⟨retB (b := false) ⟨fun h => (by cases h), fun h => absurd h (unhide no)⟩, unhide B⟩
  have g_q3 := hide (hb.1 rfl)
  clear hb
  have c14 := (unhide R).at (o := 14) (v := .int .i64 r.k) rfl
  have c15 := (unhide R).at (o := 15) (v := .int .i64 r.x) rfl
  have c16 := (unhide R).at (o := 16) (v := .int .i64 r.n) rfl
  have c17 := (unhide R).at (o := 17) (v := .string r.t) rfl
  have c18 := (unhide R).at (o := 18) (v := .string r.y) rfl
  have c19 := (unhide R).at (o := 19) (v := .string r.ty) rfl
  go_wp2_with fail
  refine (unhide q4 _).mono ?_
  rintro e w4 ⟨⟨b, rfl, hb⟩, hb1⟩
  clear c14 c15 c16 c17 c18 c19
  replace R := hide ((unhide R).keep hb1)
  replace B := hide (bTr (unhide B) hb1)
  clear hb1
  cases b
  · have hb' : ¬ (HeadP r) := fun h => by have := hb.2 h; cases this
    clear hb
    have no := hide (show ¬ GPol _ from fun h => hb' (((unhide gp).1 h).2.2.2.1))
    clear gp hb'
    go_wp2_with fail
    go_ret
    exact ⟨retB (b := false) ⟨fun h => (by cases h), fun h => absurd h (unhide no)⟩, unhide B⟩
  have g_q4 := hide (hb.1 rfl)
  clear hb
  have c8 := (unhide R).at (o := 8) (v := .int .i64 ac.k) rfl
  have c9 := (unhide R).at (o := 9) (v := .int .i64 ac.x) rfl
  have c10 := (unhide R).at (o := 10) (v := .int .i64 ac.n) rfl
  have c11 := (unhide R).at (o := 11) (v := .string ac.t) rfl
  have c12 := (unhide R).at (o := 12) (v := .string ac.y) rfl
  have c13 := (unhide R).at (o := 13) (v := .string ac.ty) rfl
  go_wp2_with fail
  refine (unhide q5 _).mono ?_
  rintro e w5 ⟨⟨b, rfl, hb⟩, hb1⟩
  clear c8 c9 c10 c11 c12 c13
  replace R := hide ((unhide R).keep hb1)
  replace B := hide (bTr (unhide B) hb1)
  clear hb1
  cases b
  case true =>
    have hb' := hb.1 rfl
    clear hb
    have no := hide (show ¬ GPol _ from fun h => ((unhide gp).1 h).2.2.1.2 hb')
    clear gp hb'
    go_wp2_with fail
    go_ret
    exact ⟨retB (b := false) ⟨fun h => (by cases h), fun h => absurd h (unhide no)⟩, unhide B⟩
  have g_q5 : Hid (¬ (ac.k = 5 ∨ ac.k = 6)) := hide (fun h => by have := hb.2 h; cases this)
  clear hb
  have gq : Hid (GPol ⟨id, pm, p, ac, r, wh⟩ ↔ (wh = [] ∨ GExpr wh)) := hide ⟨fun h => ((unhide gp).1 h).2.2.2.2, fun h => (unhide gp).2 ⟨trivial, unhide g_q2, ⟨unhide g_q3, unhide g_q5⟩, unhide g_q4, h⟩⟩
  clear gp
  have c20 := (unhide R).at (o := 20) (v := .slice a len cap) rfl
  by_cases h0 : len = 0
  · have yes : Hid (GPol ⟨id, pm, p, ac, r, wh⟩) := hide ((unhide gq).2 (.inl ((unhide hwn).2 h0)))
    subst h0
    clear gq hwn
    go_wp2_with fail
    go_ret
    exact ⟨retB (b := true) ⟨fun _ => unhide yes, fun _ => rfl⟩, unhide B⟩
  · have d0 : ((len : Int) == 0) = false := by simp; omega
    have gq' : Hid (GPol ⟨id, pm, p, ac, r, wh⟩ ↔ GExpr wh) := hide ((unhide gq).trans ⟨fun h => h.resolve_left (fun h => h0 ((unhide hwn).1 h)), .inr⟩)
    clear gq hwn
    go_wp2_with fail
    refine (unhide q6 _ ((unhide HS).keep (unhide B))).mono ?_
    rintro e w6 ⟨⟨b, rfl, hb⟩, hb1⟩
    have HB := hide hb
    replace B := hide (bTr (unhide B) hb1)
    clear hb hb1
    go_wp2_with fail
    go_ret
    exact ⟨retB ((unhide HB).trans (unhide gq').symm), unhide B⟩

set_option maxRecDepth 20000 in
set_option maxHeartbeats 4000000 in
theorem sGoodPolicy_any (P : PolT) (a : Option Addr) (len cap : Nat) (w : World) (ho : P.Ok) (hx : ∀ q ∈ P.wh, OkX q) (hl : len ≤ 1048576) (hs : SlExpr w a len P.wh) :
    Calls Tryz.prog 11 #[polAgg P (.slice a len cap)] w fun e w' => RetB e (GPol P) ∧ Below w.heap.size w w' := by
  have q1 := hide (l7Id_any P.id ho.id9)
  have q2 := hide (fun w => l10GoodHead_any P.p true w ho.p)
  have q3 := hide (fun w => l10GoodHead_any P.a false w ho.a)
  have q4 := hide (fun w => l10GoodHead_any P.r true w ho.r)
  have q6 := hide (fun w hs => sGoodExpr_any a len cap P.wh w hl hs hx)
  have hwn : Hid (P.wh = [] ↔ len = 0) := hide (by rw [hs.1]; exact List.length_eq_zero_iff.symm)
  have R := hide (RowIs.new w (polRow P (.slice a len cap)) 36)
  have B := hide (bAl (Below.refl w.heap.size w) (.cells (polRow P (.slice a len cap)) 36))
  have HS := hide hs
  clear hs ho hx
  have gp : Hid (GPol P ↔ (idB P.id = true ∧ HeadP P.p ∧ (HeadP P.a ∧ ¬ (P.a.k = 5 ∨ P.a.k = 6)) ∧ HeadP P.r ∧ (P.wh = [] ∨ GExpr P.wh))) := hide Iff.rfl
  obtain ⟨id, pm, p, ac, r, wh⟩ := P
  simp only at *
  generalize idB id = I at *
  go_enter Tryz.func11, Tryz.ntmps11
  go_wp2_with fail
  refine (unhide q1 _).mono ?_
  rintro e w1 ⟨rfl, hb1⟩
  replace R := hide ((unhide R).keep hb1)
  replace B := hide (bTr (unhide B) hb1)
  clear hb1
  have s1 : ∀ c : Bool, I = c → (c = true ↔ I = true) := fun c h => by rw [h]
  cases I
  · have no := hide (show ¬ GPol _ from fun h => (by have := ((unhide gp).1 h).1; cases this))
    clear gp
    go_wp2_with fail
    go_ret
    exact ⟨retB (b := false) ⟨fun h => (by cases h), fun h => absurd h (unhide no)⟩, unhide B⟩
  clear s1
  have c2 := (unhide R).at (o := 2) (v := .int .i64 p.k) rfl
  have c3 := (unhide R).at (o := 3) (v := .int .i64 p.x) rfl
  have c4 := (unhide R).at (o := 4) (v := .int .i64 p.n) rfl
  have c5 := (unhide R).at (o := 5) (v := .string p.t) rfl
  have c6 := (unhide R).at (o := 6) (v := .string p.y) rfl
  have c7 := (unhide R).at (o := 7) (v := .string p.ty) rfl
  go_wp2_with fail
  refine (unhide q2 _).mono ?_
  rintro e w2 ⟨⟨b, rfl, hb⟩, hb1⟩
  clear c2 c3 c4 c5 c6 c7
  replace R := hide ((unhide R).keep hb1)
  replace B := hide (bTr (unhide B) hb1)
  clear hb1
  cases b
  · have hb' : ¬ (HeadP p ∧ (True ∨ ¬ (p.k = 5 ∨ p.k = 6))) := fun h => by have := hb.2 h; cases this
    clear hb
    have no := hide (show ¬ GPol _ from fun h => hb' (⟨((unhide gp).1 h).2.1, .inl trivial⟩))
    clear gp hb'
    go_wp2_with fail
    go_ret
    exact ⟨retB (b := false) ⟨fun h => (by cases h), fun h => absurd h (unhide no)⟩, unhide B⟩
  have g_q2 := hide (hb.1 rfl)
  clear hb
  have c8 := (unhide R).at (o := 8) (v := .int .i64 ac.k) rfl
  have c9 := (unhide R).at (o := 9) (v := .int .i64 ac.x) rfl
  have c10 := (unhide R).at (o := 10) (v := .int .i64 ac.n) rfl
  have c11 := (unhide R).at (o := 11) (v := .string ac.t) rfl
  have c12 := (unhide R).at (o := 12) (v := .string ac.y) rfl
  have c13 := (unhide R).at (o := 13) (v := .string ac.ty) rfl
  go_wp2_with fail
  refine (unhide q3 _).mono ?_
  rintro e w3 ⟨⟨b, rfl, hb⟩, hb1⟩
  clear c8 c9 c10 c11 c12 c13
  replace R := hide ((unhide R).keep hb1)
  replace B := hide (bTr (unhide B) hb1)
  clear hb1
  cases b
  · have hb' : ¬ (HeadP ac ∧ (false = true ∨ ¬ (ac.k = 5 ∨ ac.k = 6))) := fun h => by have := hb.2 h; cases this
    clear hb
    have no := hide (show ¬ GPol _ from fun h => hb' (⟨((unhide gp).1 h).2.2.1.1, .inr ((unhide gp).1 h).2.2.1.2⟩))
    clear gp hb'
    go_wp2_with fail
    go_ret
    exact ⟨retB (b := false) ⟨fun h => (by cases h), fun h => absurd h (unhide no)⟩, unhide B⟩
  have g_q3 := hide (hb.1 rfl)
  clear hb
  have c14 := (unhide R).at (o := 14) (v := .int .i64 r.k) rfl
  have c15 := (unhide R).at (o := 15) (v := .int .i64 r.x) rfl
  have c16 := (unhide R).at (o := 16) (v := .int .i64 r.n) rfl
  have c17 := (unhide R).at (o := 17) (v := .string r.t) rfl
  have c18 := (unhide R).at (o := 18) (v := .string r.y) rfl
  have c19 := (unhide R).at (o := 19) (v := .string r.ty) rfl
  go_wp2_with fail
  refine (unhide q4 _).mono ?_
  rintro e w4 ⟨⟨b, rfl, hb⟩, hb1⟩
  clear c14 c15 c16 c17 c18 c19
  replace R := hide ((unhide R).keep hb1)
  replace B := hide (bTr (unhide B) hb1)
  clear hb1
  cases b
  · have hb' : ¬ (HeadP r ∧ (True ∨ ¬ (r.k = 5 ∨ r.k = 6))) := fun h => by have := hb.2 h; cases this
    clear hb
    have no := hide (show ¬ GPol _ from fun h => hb' (⟨((unhide gp).1 h).2.2.2.1, .inl trivial⟩))
    clear gp hb'
    go_wp2_with fail
    go_ret
    exact ⟨retB (b := false) ⟨fun h => (by cases h), fun h => absurd h (unhide no)⟩, unhide B⟩
  have g_q4 := hide (hb.1 rfl)
  clear hb
  have gq : Hid (GPol ⟨id, pm, p, ac, r, wh⟩ ↔ (wh = [] ∨ GExpr wh)) := hide ⟨fun h => ((unhide gp).1 h).2.2.2.2, fun h => (unhide gp).2 ⟨trivial, (unhide g_q2).1, ⟨(unhide g_q3).1, (unhide g_q3).2.resolve_left (fun h => by cases h)⟩, (unhide g_q4).1, h⟩⟩
  clear gp
  have c20 := (unhide R).at (o := 20) (v := .slice a len cap) rfl
  by_cases h0 : len = 0
  · have yes : Hid (GPol ⟨id, pm, p, ac, r, wh⟩) := hide ((unhide gq).2 (.inl ((unhide hwn).2 h0)))
    subst h0
    clear gq hwn
    go_wp2_with fail
    go_ret
    exact ⟨retB (b := true) ⟨fun _ => unhide yes, fun _ => rfl⟩, unhide B⟩
  · have d0 : ((len : Int) == 0) = false := by simp; omega
    have gq' : Hid (GPol ⟨id, pm, p, ac, r, wh⟩ ↔ GExpr wh) := hide ((unhide gq).trans ⟨fun h => h.resolve_left (fun h => h0 ((unhide hwn).1 h)), .inr⟩)
    clear gq hwn
    go_wp2_with fail
    refine (unhide q6 _ ((unhide HS).keep (unhide B))).mono ?_
    rintro e w6 ⟨⟨b, rfl, hb⟩, hb1⟩
    have HB := hide hb
    replace B := hide (bTr (unhide B) hb1)
    clear hb hb1
    go_wp2_with fail
    go_ret
    exact ⟨retB ((unhide HB).trans (unhide gq').symm), unhide B⟩

end Go.Proofs.YteaidfighimoiaaGreat.V
