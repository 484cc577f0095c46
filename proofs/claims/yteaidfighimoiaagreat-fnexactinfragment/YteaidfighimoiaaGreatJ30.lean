/- XGf, FRw, one behind the other. -/
import Derived.Test.YteaidfighimoiaaGreatJ29
import Derived.Test.YteaidfighimoiaaGreatJ22
import Derived.Test.YteaidfighimoiaaGreatJ28
import Derived.Test.YteaidfighimoiaaGreatJ25
/- impl.exprOf: the whole tree. -/
namespace Go.Proofs.YteaidfighimoiaaGreat.V
open Go.RowKit Go.Maps

set_option maxRecDepth 20000 in
set_option maxHeartbeats 1000000 in
theorem exprOf2_any (a : Option Addr) (len cap : Nat) (l : List ExprT) (w : World) (hl : len ≤ 1048576) (hc : len ≤ cap) (hs : SlExpr w a len l) (hok : ∀ q ∈ l, ExprT.Ok q) :
    Calls Tryz.prog 19 #[.slice a len cap] w fun e w' => (∃ v b, e = .returned (.tuple #[v, .bool b]) ∧ (b = true ↔ GExpr l) ∧ (b = true → ∃ t, growT 12 l = some (t, []) ∧ ExAt w' w.heap.size 12 t v)) ∧ Below w.heap.size w w' := by
  by_cases h60 : len ≤ 60
  · have q := hide (growExpr2_any w.heap.size 12 a len cap l w (by omega) (by omega) hc hs hok hs.inB (Nat.le_refl _))
    have HL := hide hs.1
    clear hs hok hc
    go_enter Tryz.func19, Tryz.ntmps19
    go_wp2_with fail
    refine (unhide q).mono ?_
    rintro e w1 ⟨(⟨hg, v1, v2, rfl⟩ | ⟨t, l', T, u, a', cap', hg, rfl, _, _, _, _, _, _, hex⟩), hb1⟩
    · have no : Hid (¬ GExpr l) := hide (fun ⟨_, t, h⟩ => by rw [hg] at h; cases h)
      clear hg q
      go_wp2_with fail
      go_ret2
      exact ⟨⟨_, _, rfl, ⟨fun h => (by cases h), fun h => absurd h (unhide no)⟩, fun h => by cases h⟩, hb1⟩
    · cases l' with
      | nil =>
        have yes : Hid (GExpr l) := hide ⟨by have := unhide HL; omega, t, hg⟩
        have HG := hide hg
        have HX := hide hex
        clear hg q hex
        go_wp2_with fail
        go_ret2
        exact ⟨⟨_, _, rfl, ⟨fun _ => unhide yes, fun _ => rfl⟩, fun _ => ⟨t, unhide HG, unhide HX⟩⟩, hb1⟩
      | cons y l2 =>
        have no : Hid (¬ GExpr l) := hide (fun ⟨_, t', h⟩ => by rw [hg] at h; simp at h)
        have d : ((l2.length : Int) + 1 == 0) = false := by simp; omega
        clear hg q hex
        go_wp2_with fail
        go_ret2
        exact ⟨⟨_, _, rfl, ⟨fun h => (by simp at h), fun h => absurd h (unhide no)⟩, fun h => by simp at h⟩, hb1⟩
  · have no : Hid (¬ GExpr l) := hide (fun ⟨h, _⟩ => by rw [← hs.1] at h; exact h60 h)
    have d : ¬ len ≤ 60 := h60
    clear hs hok hc
    go_enter Tryz.func19, Tryz.ntmps19
    go_wp2_with fail
    go_ret2
    exact ⟨⟨_, _, rfl, ⟨fun h => (by cases h), fun h => absurd h (unhide no)⟩, fun h => by cases h⟩, Below.refl _ _⟩

end Go.Proofs.YteaidfighimoiaaGreat.V
/- impl.InFragment, spec.InFragment. -/
namespace Go.Proofs.YteaidfighimoiaaGreat.V
open Go.RowKit Go.Maps

/-- A policy in the fragment. -/
def GFrag (P : PolT) : Prop := GPol P ∧ ¬ (P.p.k = 5 ∨ P.p.k = 6) ∧ ¬ (P.r.k = 5 ∨ P.r.k = 6) ∧ (P.wh = [] ∨ ∃ t, growT 12 P.wh = some (t, []) ∧ FragN 12 t)
set_option maxRecDepth 40000 in
set_option maxHeartbeats 4000000 in
theorem iInFragment_any (P : PolT) (a : Option Addr) (len cap : Nat) (w : World) (ho : P.Ok) (hl : len ≤ 1048576) (hc : len ≤ cap) (hs : SlExpr w a len P.wh) :
    Calls Tryz.prog 7 #[polAgg P (.slice a len cap)] w fun e w' => RetB e (GFrag P) ∧ Below w.heap.size w w' := by
  have q1 := hide (fun w hs => iGoodPolicy_any P a len cap w ho hl hc hs)
  have q2 := hide (isSlot_any P.p)
  have q3 := hide (isSlot_any P.r)
  have q4 := hide (fun w hs => exprOf2_any a len cap P.wh w hl hc hs ho.wh)
  have hwn : Hid (P.wh = [] ↔ len = 0) := hide (by rw [hs.1]; exact List.length_eq_zero_iff.symm)
  have R := hide (RowIs.new w (polRow P (.slice a len cap)) 36)
  have B := hide (bAl (Below.refl w.heap.size w) (.cells (polRow P (.slice a len cap)) 36))
  have HS := hide hs
  have gp : Hid (GFrag P ↔ (GPol P ∧ ¬ (P.p.k = 5 ∨ P.p.k = 6) ∧ ¬ (P.r.k = 5 ∨ P.r.k = 6) ∧ (P.wh = [] ∨ ∃ t, growT 12 P.wh = some (t, []) ∧ FragN 12 t))) := hide Iff.rfl
  have gx : Hid (GPol P → P.wh ≠ [] → GExpr P.wh) := hide (fun h hn => h.2.2.2.2.resolve_left hn)
  clear hs ho hc
  generalize GFrag P = G at *
  generalize GPol P = GG at *
  go_enter Tryz.func7, Tryz.ntmps7
  go_upto_region 1 with fail
  go_step
  refine wpList_load_row rfl 36 _ rfl _ rfl 36 _ (0, 0) _ (unhide R) Tryz.underlying36 rfl (by kernel_rfl) ?_
  go_wp2_with fail
  refine (unhide q1 _ ((unhide HS).keep (unhide B))).mono ?_
  rintro e w1 ⟨⟨b, rfl, hb⟩, hb1⟩
  replace R := hide ((unhide R).keep hb1)
  replace B := hide (bTr (unhide B) hb1)
  clear hb1 q1
  obtain ⟨id, pm, p, ac, r, wh⟩ := P
  simp only at *
  cases b
  · have no : Hid (¬ G) := hide (fun h => by have := hb.2 ((unhide gp).1 h).1; cases this)
    clear gp gx hb
    go_wp2_with fail
    go_ret
    exact ⟨retB (b := false) ⟨fun h => (by cases h), fun h => absurd h (unhide no)⟩, unhide B⟩
  have hg := hide (hb.1 rfl)
  clear hb
  have c2 := (unhide R).at (o := 2) (v := .int .i64 p.k) rfl
  have c3 := (unhide R).at (o := 3) (v := .int .i64 p.x) rfl
  have c4 := (unhide R).at (o := 4) (v := .int .i64 p.n) rfl
  have c5 := (unhide R).at (o := 5) (v := .string p.t) rfl
  have c6 := (unhide R).at (o := 6) (v := .string p.y) rfl
  have c7 := (unhide R).at (o := 7) (v := .string p.ty) rfl
  go_wp2_with fail
  refine (unhide q2 _).mono ?_
  rintro e w2 ⟨⟨b, rfl, hb⟩, hb1⟩
  clear c2 c3 c4 c5 c6 c7 q2
  replace R := hide ((unhide R).keep hb1)
  replace B := hide (bTr (unhide B) hb1)
  clear hb1
  cases b
  case true =>
    have no : Hid (¬ G) := hide (fun h => ((unhide gp).1 h).2.1 (hb.1 rfl))
    clear gp gx hb hg
    go_wp2_with fail
    go_ret
    exact ⟨retB (b := false) ⟨fun h => (by cases h), fun h => absurd h (unhide no)⟩, unhide B⟩
  have h2 : Hid (¬ (p.k = 5 ∨ p.k = 6)) := hide (fun h => by have := hb.2 h; cases this)
  clear hb
  have c14 := (unhide R).at (o := 14) (v := .int .i64 r.k) rfl
  have c15 := (unhide R).at (o := 15) (v := .int .i64 r.x) rfl
  have c16 := (unhide R).at (o := 16) (v := .int .i64 r.n) rfl
  have c17 := (unhide R).at (o := 17) (v := .string r.t) rfl
  have c18 := (unhide R).at (o := 18) (v := .string r.y) rfl
  have c19 := (unhide R).at (o := 19) (v := .string r.ty) rfl
  go_wp2_with fail
  refine (unhide q3 _).mono ?_
  rintro e w3 ⟨⟨b, rfl, hb⟩, hb1⟩
  clear c14 c15 c16 c17 c18 c19 q3
  replace R := hide ((unhide R).keep hb1)
  replace B := hide (bTr (unhide B) hb1)
  clear hb1
  cases b
  case true =>
    have no : Hid (¬ G) := hide (fun h => ((unhide gp).1 h).2.2.1 (hb.1 rfl))
    clear gp gx hb hg h2
    go_wp2_with fail
    go_ret
    exact ⟨retB (b := false) ⟨fun h => (by cases h), fun h => absurd h (unhide no)⟩, unhide B⟩
  have h3 : Hid (¬ (r.k = 5 ∨ r.k = 6)) := hide (fun h => by have := hb.2 h; cases this)
  clear hb
  have GI : Hid (G ↔ (wh = [] ∨ ∃ t, growT 12 wh = some (t, []) ∧ FragN 12 t)) := hide ((unhide gp).trans ⟨fun h => h.2.2.2, fun h => ⟨unhide hg, unhide h2, unhide h3, h⟩⟩)
  replace gx := hide (unhide gx (unhide hg))
  clear gp hg h2 h3
  have c20 := (unhide R).at (o := 20) (v := .slice a len cap) rfl
  go_wp2_with fail
  refine (unhide q4 _ ((unhide HS).keep (unhide B))).mono ?_
  rintro e w4 ⟨⟨v, b, rfl, hb, ht⟩, hb1⟩
  replace R := hide ((unhide R).keep hb1)
  replace B := hide (bTr (unhide B) hb1)
  have HB := hide hb
  have HT := hide ht
  clear hb ht hb1 c20 q4
  have c20 := (unhide R).at (o := 20) (v := .slice a len cap) rfl
  by_cases h0 : len = 0
  · have yes : Hid G := hide ((unhide GI).2 (.inl ((unhide hwn).2 h0)))
    clear HB HT gx hwn GI
    subst h0
    go_wp2_with fail
    go_ret
    exact ⟨retB (b := true) ⟨fun _ => unhide yes, fun _ => rfl⟩, unhide B⟩
  have hne : ¬ wh = [] := fun h => h0 ((unhide hwn).1 h)
  obtain ⟨t, ht, hx⟩ := unhide HT ((unhide HB).2 (unhide gx hne))
  have hf := Fit.grow 12 _ _ _ ht
  have q5 := hide (inFragment_any 12 _ _ t v hx hf)
  have GI2 : Hid (G ↔ FragN 12 t) := hide ((unhide GI).trans ⟨fun h => by
    rcases h with h | ⟨t', h1, h2⟩
    · exact absurd h hne
    · rw [ht] at h1; simp at h1; subst h1; exact h2, fun h => .inr ⟨t, ht, h⟩⟩)
  have d0 : ((len : Int) == 0) = false := by simp; omega
  clear HB HT gx hwn GI hne ht hx hf
  go_wp2_with fail
  refine (unhide q5 _).mono ?_
  rintro e w5 ⟨⟨b5, rfl, hb5⟩, hb1⟩
  replace B := hide (bTr (unhide B) hb1)
  have H5 := hide hb5
  clear hb1 hb5 q5 c20
  go_wp2_with fail
  go_ret
  exact ⟨retB ((unhide H5).trans (unhide GI2).symm), unhide B⟩
set_option maxRecDepth 40000 in
set_option maxHeartbeats 4000000 in
theorem sInFragment_any (P : PolT) (a : Option Addr) (len cap : Nat) (w : World) (ho : P.Ok) (hl : len ≤ 1048576) (hx : ∀ q ∈ P.wh, OkX q) (hs : SlExpr w a len P.wh) :
    Calls Tryz.prog 5 #[polAgg P (.slice a len cap)] w fun e w' => RetB e (GFrag P) ∧ Below w.heap.size w w' := by
  have q1 := hide (fun w hs => sGoodPolicy_any P a len cap w ho hx hl hs)
  have q2 := hide (l10Slot_any P.p)
  have q3 := hide (l10Slot_any P.r)
  have q4 := hide (fun w hs => l10Tree_any a len cap P.wh w hl hs hx)
  have hwn : Hid (P.wh = [] ↔ len = 0) := hide (by rw [hs.1]; exact List.length_eq_zero_iff.symm)
  have R := hide (RowIs.new w (polRow P (.slice a len cap)) 36)
  have B := hide (bAl (Below.refl w.heap.size w) (.cells (polRow P (.slice a len cap)) 36))
  have HS := hide hs
  have gp : Hid (GFrag P ↔ (GPol P ∧ ¬ (P.p.k = 5 ∨ P.p.k = 6) ∧ ¬ (P.r.k = 5 ∨ P.r.k = 6) ∧ (P.wh = [] ∨ ∃ t, growT 12 P.wh = some (t, []) ∧ FragN 12 t))) := hide Iff.rfl
  have gx : Hid (GPol P → P.wh ≠ [] → GExpr P.wh) := hide (fun h hn => h.2.2.2.2.resolve_left hn)
  clear hs ho hx
  generalize GFrag P = G at *
  generalize GPol P = GG at *
  go_enter Tryz.func5, Tryz.ntmps5
  go_upto_region 1 with fail
  go_step
  refine wpList_load_row rfl 36 _ rfl _ rfl 36 _ (0, 0) _ (unhide R) Tryz.underlying36 rfl (by kernel_rfl) ?_
  go_wp2_with fail
  refine (unhide q1 _ ((unhide HS).keep (unhide B))).mono ?_
  rintro e w1 ⟨⟨b, rfl, hb⟩, hb1⟩
  replace R := hide ((unhide R).keep hb1)
  replace B := hide (bTr (unhide B) hb1)
  clear hb1 q1
  obtain ⟨id, pm, p, ac, r, wh⟩ := P
  simp only at *
  cases b
  · have no : Hid (¬ G) := hide (fun h => by have := hb.2 ((unhide gp).1 h).1; cases this)
    clear gp gx hb
    go_wp2_with fail
    go_ret
    exact ⟨retB (b := false) ⟨fun h => (by cases h), fun h => absurd h (unhide no)⟩, unhide B⟩
  have hg := hide (hb.1 rfl)
  clear hb
  have c2 := (unhide R).at (o := 2) (v := .int .i64 p.k) rfl
  have c3 := (unhide R).at (o := 3) (v := .int .i64 p.x) rfl
  have c4 := (unhide R).at (o := 4) (v := .int .i64 p.n) rfl
  have c5 := (unhide R).at (o := 5) (v := .string p.t) rfl
  have c6 := (unhide R).at (o := 6) (v := .string p.y) rfl
  have c7 := (unhide R).at (o := 7) (v := .string p.ty) rfl
  go_wp2_with fail
  refine (unhide q2 _).mono ?_
  rintro e w2 ⟨⟨b, rfl, hb⟩, hb1⟩
  clear c2 c3 c4 c5 c6 c7 q2
  replace R := hide ((unhide R).keep hb1)
  replace B := hide (bTr (unhide B) hb1)
  clear hb1
  cases b
  case true =>
    have no : Hid (¬ G) := hide (fun h => ((unhide gp).1 h).2.1 (hb.1 rfl))
    clear gp gx hb hg
    go_wp2_with fail
    go_ret
    exact ⟨retB (b := false) ⟨fun h => (by cases h), fun h => absurd h (unhide no)⟩, unhide B⟩
  have h2 : Hid (¬ (p.k = 5 ∨ p.k = 6)) := hide (fun h => by have := hb.2 h; cases this)
  clear hb
  have c14 := (unhide R).at (o := 14) (v := .int .i64 r.k) rfl
  have c15 := (unhide R).at (o := 15) (v := .int .i64 r.x) rfl
  have c16 := (unhide R).at (o := 16) (v := .int .i64 r.n) rfl
  have c17 := (unhide R).at (o := 17) (v := .string r.t) rfl
  have c18 := (unhide R).at (o := 18) (v := .string r.y) rfl
  have c19 := (unhide R).at (o := 19) (v := .string r.ty) rfl
  go_wp2_with fail
  refine (unhide q3 _).mono ?_
  rintro e w3 ⟨⟨b, rfl, hb⟩, hb1⟩
  clear c14 c15 c16 c17 c18 c19 q3
  replace R := hide ((unhide R).keep hb1)
  replace B := hide (bTr (unhide B) hb1)
  clear hb1
  cases b
  case true =>
    have no : Hid (¬ G) := hide (fun h => ((unhide gp).1 h).2.2.1 (hb.1 rfl))
    clear gp gx hb hg h2
    go_wp2_with fail
    go_ret
    exact ⟨retB (b := false) ⟨fun h => (by cases h), fun h => absurd h (unhide no)⟩, unhide B⟩
  have h3 : Hid (¬ (r.k = 5 ∨ r.k = 6)) := hide (fun h => by have := hb.2 h; cases this)
  clear hb
  have GI : Hid (G ↔ (wh = [] ∨ ∃ t, growT 12 wh = some (t, []) ∧ FragN 12 t)) := hide ((unhide gp).trans ⟨fun h => h.2.2.2, fun h => ⟨unhide hg, unhide h2, unhide h3, h⟩⟩)
  replace gx := hide (unhide gx (unhide hg))
  clear gp hg h2 h3
  have c20 := (unhide R).at (o := 20) (v := .slice a len cap) rfl
  go_wp2_with fail
  refine (unhide q4 _ ((unhide HS).keep (unhide B))).mono ?_
  rintro e w4 ⟨ht, hb1⟩
  replace R := hide ((unhide R).keep hb1)
  replace B := hide (bTr (unhide B) hb1)
  have HT := hide ht
  clear ht hb1 c20 q4
  have c20 := (unhide R).at (o := 20) (v := .slice a len cap) rfl
  have zr := (unhide R).lt
  by_cases h0 : len = 0
  · have yes : Hid G := hide ((unhide GI).2 (.inl ((unhide hwn).2 h0)))
    rcases unhide HT with ⟨_, X, sa, sn, sc, rfl⟩ | ⟨_, t, sa, sn, sc, rfl, _⟩
    · clear HT gx hwn GI
      subst h0
      go_wp2_with fail
      go_ret
      exact ⟨retB (b := true) ⟨fun _ => unhide yes, fun _ => rfl⟩, bAl (unhide B) _⟩
    · clear HT gx hwn GI
      subst h0
      generalize t.n = Y
      go_wp2_with fail
      go_ret
      exact ⟨retB (b := true) ⟨fun _ => unhide yes, fun _ => rfl⟩, bAl (unhide B) _⟩
  have hne : ¬ wh = [] := fun h => h0 ((unhide hwn).1 h)
  have hge := unhide gx hne
  rcases unhide HT with ⟨hn, _⟩ | ⟨_, t, sa, sn, sc, rfl, htk, hr, htr⟩
  · exact absurd hge hn
  have hgr := (grow_iff 12 _ _ _).2 ⟨htk, hr⟩
  have hf := Fit.grow 12 _ _ _ hgr
  have q5 := hide (fun (w' : World) (hb : Below w4.heap.size w4 w') => l14Right_any 12 w' _ (.slice sa sn sc) t (htr.keptY ((KeptY.refl _ w4).below hb (Nat.le_refl _))) hf)
  have GI2 : Hid (G ↔ FragN 12 t) := hide ((unhide GI).trans ⟨fun h => by
    rcases h with h | ⟨t', h1, h2⟩
    · exact absurd h hne
    · rw [hgr] at h1; simp at h1; subst h1; exact h2, fun h => .inr ⟨t, hgr, h⟩⟩)
  have d0 : ((len : Int) == 0) = false := by simp; omega
  clear HT gx hwn GI hne htk hr htr hf hgr hge
  generalize t.n = Y at *
  go_wp2_with fail
  refine (unhide q5 _ (bAl (Below.refl _ _) _)).mono ?_
  rintro e w5 ⟨⟨b5, rfl, hb5⟩, hb1⟩
  replace B := hide (bTr (bAl (unhide B) _) hb1)
  have H5 := hide hb5
  clear hb1 hb5 q5 c20
  go_wp2_with fail
  go_ret
  exact ⟨retB ((unhide H5).trans (unhide GI2).symm), unhide B⟩
end Go.Proofs.YteaidfighimoiaaGreat.V
