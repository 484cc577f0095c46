/- YPo, YLk, one behind the other. -/
import Derived.Test.YtcajlndbaipcaaaJ12
import Derived.Test.YtcajlndbaipcaaaJ17
import Derived.Test.YtcajlndbaipcaaaJ20
/- impl.GoodPolicy, spec.GoodPolicy. -/
namespace Go.Proofs.Ytcajlndbaipcaaa.V
open Go.RowKit Go.Maps

structure PolT where
  id : ByteArray
  pm : Bool
  p : HeadT
  a : HeadT
  r : HeadT
  wh : List ExprT
structure PolT.Ok (P : PolT) : Prop where
  id9 : P.id.size ≤ maxLen
  p : P.p.Ok
  a : P.a.Ok
  r : P.r.Ok
  wh : ∀ q ∈ P.wh, ExprT.Ok q
abbrev polRow (P : PolT) (s : Value) : Array Value := #[.string P.id, .bool P.pm, .int .i64 P.p.k, .int .i64 P.p.x, .int .i64 P.p.n, .string P.p.t, .string P.p.y, .string P.p.ty, .int .i64 P.a.k, .int .i64 P.a.x, .int .i64 P.a.n, .string P.a.t, .string P.a.y, .string P.a.ty, .int .i64 P.r.k, .int .i64 P.r.x, .int .i64 P.r.n, .string P.r.t, .string P.r.y, .string P.r.ty, s]
abbrev polAgg (P : PolT) (s : Value) : Value := .agg #[.string P.id, .bool P.pm, .int .i64 P.p.k, .int .i64 P.p.x, .int .i64 P.p.n, .string P.p.t, .string P.p.y, .string P.p.ty, .int .i64 P.a.k, .int .i64 P.a.x, .int .i64 P.a.n, .string P.a.t, .string P.a.y, .string P.a.ty, .int .i64 P.r.k, .int .i64 P.r.x, .int .i64 P.r.n, .string P.r.t, .string P.r.y, .string P.r.ty, s]
def GPol (P : PolT) : Prop := idB P.id = true ∧ HeadP P.p ∧ (HeadP P.a ∧ ¬ (P.a.k = 5 ∨ P.a.k = 6)) ∧ HeadP P.r ∧ (P.wh = [] ∨ GExpr P.wh)

set_option maxRecDepth 20000 in
set_option maxHeartbeats 4000000 in
theorem iGoodPolicy_any (P : PolT) (a : Option Addr) (len cap : Nat) (w : World) (ho : P.Ok) (hl : len ≤ 1048576) (hc : len ≤ cap) (hs : SlExpr w a len P.wh) :
    Calls Try.prog 23 #[polAgg P (.slice a len cap)] w fun e w' => RetB e (GPol P) ∧ Below w.heap.size w w' := by
  have q1 := hide (isId_any P.id ho.id9)
  have q2 := hide (fun w => goodHead_any P.p w ho.p)
  have q3 := hide (fun w => goodHead_any P.a w ho.a)
  have q4 := hide (fun w => goodHead_any P.r w ho.r)
  have q5 := hide (isSlot_any P.a)
  have q6 := hide (fun w hs => iGoodExpr_any a len cap P.wh w hl hc hs ho.wh)
  have hwn : Hid (P.wh = [] ↔ len = 0) := hide (by rw [hs.1]; exact List.length_eq_zero_iff.symm)
  have R := hide (RowIs.new w (polRow P (.slice a len cap)) 36)
  have B := hide (bAl (Below.refl w.heap.size w) (.cells (polRow P (.slice a len cap)) 36))
  have HS := hide hs
  clear hs ho hc
  have gp : Hid (GPol P ↔ (idB P.id = true ∧ HeadP P.p ∧ (HeadP P.a ∧ ¬ (P.a.k = 5 ∨ P.a.k = 6)) ∧ HeadP P.r ∧ (P.wh = [] ∨ GExpr P.wh))) := hide Iff.rfl
  obtain ⟨id, pm, p, ac, r, wh⟩ := P
  simp only at *
  generalize idB id = I at *
  go_enter Try.func23, Try.ntmps23
  go_wp2_with fail
  refine (unhide q1 _).mono ?_
  rintro e w1 ⟨rfl, hb1⟩
  replace R := hide ((unhide R).keep hb1)
  replace B := hide (bTr (unhide B) hb1)
  clear hb1
  have s1 : ∀ c : Bool, I = c → (c = true ↔ I = true) := fun c h => by rw [h]
  cases I
  · have no := hide (show ¬ GPol _ from fun h => (by have := ((unhide gp).1 h).1; cases this))
    clear gp
    go_wp2_with fail
    go_ret
    exact ⟨retB (b := false) ⟨fun h => (by cases h), fun h => absurd h (unhide no)⟩, unhide B⟩
  clear s1
  have c2 := (unhide R).at (o := 2) (v := .int .i64 p.k) rfl
  have c3 := (unhide R).at (o := 3) (v := .int .i64 p.x) rfl
  have c4 := (unhide R).at (o := 4) (v := .int .i64 p.n) rfl
  have c5 := (unhide R).at (o := 5) (v := .string p.t) rfl
  have c6 := (unhide R).at (o := 6) (v := .string p.y) rfl
  have c7 := (unhide R).at (o := 7) (v := .string p.ty) rfl
  go_wp2_with fail
  refine (unhide q2 _).mono ?_
  rintro e w2 ⟨⟨b, rfl, hb⟩, hb1⟩
  clear c2 c3 c4 c5 c6 c7
  replace R := hide ((unhide R).keep hb1)
  replace B := hide (bTr (unhide B) hb1)
  clear hb1
  cases b
  · have hb' : ¬ (HeadP p) := fun h => by have := hb.2 h; cases this
    clear hb
    have no := hide (show ¬ GPol _ from fun h => hb' (((unhide gp).1 h).2.1))
    clear gp hb'
    go_wp2_with fail
    go_ret
    exact ⟨retB (b := false) ⟨fun h => (by cases h), fun h => absurd h (unhide no)⟩, unhide B⟩
  have g_q2 := hide (hb.1 rfl)
  clear hb
  have c8 := (unhide R).at (o := 8) (v := .int .i64 ac.k) rfl
  have c9 := (unhide R).at (o := 9) (v := .int .i64 ac.x) rfl
  have c10 := (unhide R).at (o := 10) (v := .int .i64 ac.n) rfl
  have c11 := (unhide R).at (o := 11) (v := .string ac.t) rfl
  have c12 := (unhide R).at (o := 12) (v := .string ac.y) rfl
  have c13 := (unhide R).at (o := 13) (v := .string ac.ty) rfl
  go_wp2_with fail
  refine (unhide q3 _).mono ?_
  rintro e w3 ⟨⟨b, rfl, hb⟩, hb1⟩
  clear c8 c9 c10 c11 c12 c13
  replace R := hide ((unhide R).keep hb1)
  replace B := hide (bTr (unhide B) hb1)
  clear hb1
  cases b
  · have hb' : ¬ (HeadP ac) := fun h => by have := hb.2 h; cases this
    clear hb
    have no := hide (show ¬ GPol _ from fun h => hb' (((unhide gp).1 h).2.2.1.1))
    clear gp hb'
    go_wp2_with fail
    go_ret
    exact ⟨retB (b := false) ⟨fun h => (by cases h), fun h => absurd h (unhide no)⟩, unhide B⟩
  have g_q3 := hide (hb.1 rfl)
  clear hb
  have c14 := (unhide R).at (o := 14) (v := .int .i64 r.k) rfl
  have c15 := (unhide R).at (o := 15) (v := .int .i64 r.x) rfl
  have c16 := (unhide R).at (o := 16) (v := .int .i64 r.n) rfl
  have c17 := (unhide R).at (o := 17) (v := .string r.t) rfl
  have c18 := (unhide R).at (o := 18) (v := .string r.y) rfl
  have c19 := (unhide R).at (o := 19) (v := .string r.ty) rfl
  go_wp2_with fail
  refine (unhide q4 _).mono ?_
  rintro e w4 ⟨⟨b, rfl, hb⟩, hb1⟩
  clear c14 c15 c16 c17 c18 c19
  replace R := hide ((unhide R).keep hb1)
  replace B := hide (bTr (unhide B) hb1)
  clear hb1
  cases b
  · have hb' : ¬ (HeadP r) := fun h => by have := hb.2 h; cases this
    clear hb
    have no := hide (show ¬ GPol _ from fun h => hb' (((unhide gp).1 h).2.2.2.1))
    clear gp hb'
    go_wp2_with fail
    go_ret
    exact ⟨retB (b := false) ⟨fun h => (by cases h), fun h => absurd h (unhide no)⟩, unhide B⟩
  have g_q4 := hide (hb.1 rfl)
  clear hb
  have c8 := (unhide R).at (o := 8) (v := .int .i64 ac.k) rfl
  have c9 := (unhide R).at (o := 9) (v := .int .i64 ac.x) rfl
  have c10 := (unhide R).at (o := 10) (v := .int .i64 ac.n) rfl
  have c11 := (unhide R).at (o := 11) (v := .string ac.t) rfl
  have c12 := (unhide R).at (o := 12) (v := .string ac.y) rfl
  have c13 := (unhide R).at (o := 13) (v := .string ac.ty) rfl
  go_wp2_with fail
  refine (unhide q5 _).mono ?_
  rintro e w5 ⟨⟨b, rfl, hb⟩, hb1⟩
  clear c8 c9 c10 c11 c12 c13
  replace R := hide ((unhide R).keep hb1)
  replace B := hide (bTr (unhide B) hb1)
  clear hb1
  cases b
  case true =>
    have hb' := hb.1 rfl
    clear hb
    have no := hide (show ¬ GPol _ from fun h => ((unhide gp).1 h).2.2.1.2 hb')
    clear gp hb'
    go_wp2_with fail
    go_ret
    exact ⟨retB (b := false) ⟨fun h => (by cases h), fun h => absurd h (unhide no)⟩, unhide B⟩
  have g_q5 : Hid (¬ (ac.k = 5 ∨ ac.k = 6)) := hide (fun h => by have := hb.2 h; cases this)
  clear hb
  have gq : Hid (GPol ⟨id, pm, p, ac, r, wh⟩ ↔ (wh = [] ∨ GExpr wh)) := hide ⟨fun h => ((unhide gp).1 h).2.2.2.2, fun h => (unhide gp).2 ⟨trivial, unhide g_q2, ⟨unhide g_q3, unhide g_q5⟩, unhide g_q4, h⟩⟩
  clear gp
  have c20 := (unhide R).at (o := 20) (v := .slice a len cap) rfl
  by_cases h0 : len = 0
  · have yes : Hid (GPol ⟨id, pm, p, ac, r, wh⟩) := hide ((unhide gq).2 (.inl ((unhide hwn).2 h0)))
    subst h0
    clear gq hwn
    go_wp2_with fail
    go_ret
    exact ⟨retB (b := true) ⟨fun _ => unhide yes, fun _ => rfl⟩, unhide B⟩
  · have d0 : ((len : Int) == 0) = false := by simp; omega
    have gq' : Hid (GPol ⟨id, pm, p, ac, r, wh⟩ ↔ GExpr wh) := hide ((unhide gq).trans ⟨fun h => h.resolve_left (fun h => h0 ((unhide hwn).1 h)), .inr⟩)
    clear gq hwn
    go_wp2_with fail
    refine (unhide q6 _ ((unhide HS).keep (unhide B))).mono ?_
    rintro e w6 ⟨⟨b, rfl, hb⟩, hb1⟩
    have HB := hide hb
    replace B := hide (bTr (unhide B) hb1)
    clear hb hb1
    go_wp2_with fail
    go_ret
    exact ⟨retB ((unhide HB).trans (unhide gq').symm), unhide B⟩

set_option maxRecDepth 20000 in
set_option maxHeartbeats 4000000 in
theorem sGoodPolicy_any (P : PolT) (a : Option Addr) (len cap : Nat) (w : World) (ho : P.Ok) (hx : ∀ q ∈ P.wh, OkX q) (hl : len ≤ 1048576) (hs : SlExpr w a len P.wh) :
    Calls Try.prog 15 #[polAgg P (.slice a len cap)] w fun e w' => RetB e (GPol P) ∧ Below w.heap.size w w' := by
  have q1 := hide (l7Id_any P.id ho.id9)
  have q2 := hide (fun w => l10GoodHead_any P.p true w ho.p)
  have q3 := hide (fun w => l10GoodHead_any P.a false w ho.a)
  have q4 := hide (fun w => l10GoodHead_any P.r true w ho.r)
  have q6 := hide (fun w hs => sGoodExpr_any a len cap P.wh w hl hs hx)
  have hwn : Hid (P.wh = [] ↔ len = 0) := hide (by rw [hs.1]; exact List.length_eq_zero_iff.symm)
  have R := hide (RowIs.new w (polRow P (.slice a len cap)) 36)
  have B := hide (bAl (Below.refl w.heap.size w) (.cells (polRow P (.slice a len cap)) 36))
  have HS := hide hs
  clear hs ho hx
  have gp : Hid (GPol P ↔ (idB P.id = true ∧ HeadP P.p ∧ (HeadP P.a ∧ ¬ (P.a.k = 5 ∨ P.a.k = 6)) ∧ HeadP P.r ∧ (P.wh = [] ∨ GExpr P.wh))) := hide Iff.rfl
  obtain ⟨id, pm, p, ac, r, wh⟩ := P
  simp only at *
  generalize idB id = I at *
  go_enter Try.func15, Try.ntmps15
  go_wp2_with fail
  refine (unhide q1 _).mono ?_
  rintro e w1 ⟨rfl, hb1⟩
  replace R := hide ((unhide R).keep hb1)
  replace B := hide (bTr (unhide B) hb1)
  clear hb1
  have s1 : ∀ c : Bool, I = c → (c = true ↔ I = true) := fun c h => by rw [h]
  cases I
  · have no := hide (show ¬ GPol _ from fun h => (by have := ((unhide gp).1 h).1; cases this))
    clear gp
    go_wp2_with fail
    go_ret
    exact ⟨retB (b := false) ⟨fun h => (by cases h), fun h => absurd h (unhide no)⟩, unhide B⟩
  clear s1
  have c2 := (unhide R).at (o := 2) (v := .int .i64 p.k) rfl
  have c3 := (unhide R).at (o := 3) (v := .int .i64 p.x) rfl
  have c4 := (unhide R).at (o := 4) (v := .int .i64 p.n) rfl
  have c5 := (unhide R).at (o := 5) (v := .string p.t) rfl
  have c6 := (unhide R).at (o := 6) (v := .string p.y) rfl
  have c7 := (unhide R).at (o := 7) (v := .string p.ty) rfl
  go_wp2_with fail
  refine (unhide q2 _).mono ?_
  rintro e w2 ⟨⟨b, rfl, hb⟩, hb1⟩
  clear c2 c3 c4 c5 c6 c7
  replace R := hide ((unhide R).keep hb1)
  replace B := hide (bTr (unhide B) hb1)
  clear hb1
  cases b
  · have hb' : ¬ (HeadP p ∧ (True ∨ ¬ (p.k = 5 ∨ p.k = 6))) := fun h => by have := hb.2 h; cases this
    clear hb
    have no := hide (show ¬ GPol _ from fun h => hb' (⟨((unhide gp).1 h).2.1, .inl trivial⟩))
    clear gp hb'
    go_wp2_with fail
    go_ret
    exact ⟨retB (b := false) ⟨fun h => (by cases h), fun h => absurd h (unhide no)⟩, unhide B⟩
  have g_q2 := hide (hb.1 rfl)
  clear hb
  have c8 := (unhide R).at (o := 8) (v := .int .i64 ac.k) rfl
  have c9 := (unhide R).at (o := 9) (v := .int .i64 ac.x) rfl
  have c10 := (unhide R).at (o := 10) (v := .int .i64 ac.n) rfl
  have c11 := (unhide R).at (o := 11) (v := .string ac.t) rfl
  have c12 := (unhide R).at (o := 12) (v := .string ac.y) rfl
  have c13 := (unhide R).at (o := 13) (v := .string ac.ty) rfl
  go_wp2_with fail
  refine (unhide q3 _).mono ?_
  rintro e w3 ⟨⟨b, rfl, hb⟩, hb1⟩
  clear c8 c9 c10 c11 c12 c13
  replace R := hide ((unhide R).keep hb1)
  replace B := hide (bTr (unhide B) hb1)
  clear hb1
  cases b
  · have hb' : ¬ (HeadP ac ∧ (false = true ∨ ¬ (ac.k = 5 ∨ ac.k = 6))) := fun h => by have := hb.2 h; cases this
    clear hb
    have no := hide (show ¬ GPol _ from fun h => hb' (⟨((unhide gp).1 h).2.2.1.1, .inr ((unhide gp).1 h).2.2.1.2⟩))
    clear gp hb'
    go_wp2_with fail
    go_ret
    exact ⟨retB (b := false) ⟨fun h => (by cases h), fun h => absurd h (unhide no)⟩, unhide B⟩
  have g_q3 := hide (hb.1 rfl)
  clear hb
  have c14 := (unhide R).at (o := 14) (v := .int .i64 r.k) rfl
  have c15 := (unhide R).at (o := 15) (v := .int .i64 r.x) rfl
  have c16 := (unhide R).at (o := 16) (v := .int .i64 r.n) rfl
  have c17 := (unhide R).at (o := 17) (v := .string r.t) rfl
  have c18 := (unhide R).at (o := 18) (v := .string r.y) rfl
  have c19 := (unhide R).at (o := 19) (v := .string r.ty) rfl
  go_wp2_with fail
  refine (unhide q4 _).mono ?_
  rintro e w4 ⟨⟨b, rfl, hb⟩, hb1⟩
  clear c14 c15 c16 c17 c18 c19
  replace R := hide ((unhide R).keep hb1)
  replace B := hide (bTr (unhide B) hb1)
  clear hb1
  cases b
  · have hb' : ¬ (HeadP r ∧ (True ∨ ¬ (r.k = 5 ∨ r.k = 6))) := fun h => by have := hb.2 h; cases this
    clear hb
    have no := hide (show ¬ GPol _ from fun h => hb' (⟨((unhide gp).1 h).2.2.2.1, .inl trivial⟩))
    clear gp hb'
    go_wp2_with fail
    go_ret
    exact ⟨retB (b := false) ⟨fun h => (by cases h), fun h => absurd h (unhide no)⟩, unhide B⟩
  have g_q4 := hide (hb.1 rfl)
  clear hb
  have gq : Hid (GPol ⟨id, pm, p, ac, r, wh⟩ ↔ (wh = [] ∨ GExpr wh)) := hide ⟨fun h => ((unhide gp).1 h).2.2.2.2, fun h => (unhide gp).2 ⟨trivial, (unhide g_q2).1, ⟨(unhide g_q3).1, (unhide g_q3).2.resolve_left (fun h => by cases h)⟩, (unhide g_q4).1, h⟩⟩
  clear gp
  have c20 := (unhide R).at (o := 20) (v := .slice a len cap) rfl
  by_cases h0 : len = 0
  · have yes : Hid (GPol ⟨id, pm, p, ac, r, wh⟩) := hide ((unhide gq).2 (.inl ((unhide hwn).2 h0)))
    subst h0
    clear gq hwn
    go_wp2_with fail
    go_ret
    exact ⟨retB (b := true) ⟨fun _ => unhide yes, fun _ => rfl⟩, unhide B⟩
  · have d0 : ((len : Int) == 0) = false := by simp; omega
    have gq' : Hid (GPol ⟨id, pm, p, ac, r, wh⟩ ↔ GExpr wh) := hide ((unhide gq).trans ⟨fun h => h.resolve_left (fun h => h0 ((unhide hwn).1 h)), .inr⟩)
    clear gq hwn
    go_wp2_with fail
    refine (unhide q6 _ ((unhide HS).keep (unhide B))).mono ?_
    rintro e w6 ⟨⟨b, rfl, hb⟩, hb1⟩
    have HB := hide hb
    replace B := hide (bTr (unhide B) hb1)
    clear hb hb1
    go_wp2_with fail
    go_ret
    exact ⟨retB ((unhide HB).trans (unhide gq').symm), unhide B⟩

end Go.Proofs.Ytcajlndbaipcaaa.V
/- Slots and what is linked: spec.l10Slot, l10Link, impl.linkedHead. -/
namespace Go.Proofs.Ytcajlndbaipcaaa.V
open Go.RowKit Go.Maps

theorem l10Slot_any (h : HeadT) (w : World) :
    Calls Try.prog 18 #[hAgg h] w fun e w' => RetB e (h.k = 5 ∨ h.k = 6) ∧ Below w.heap.size w w' := by
  obtain ⟨k, x, n, t, y, ty⟩ := h
  simp only
  by_cases h5 : k = 5
  · subst h5
    go_enter Try.func18, Try.ntmps18
    go_wp2_with fail
    go_ret
    exact ⟨retB (by simp), bAl (Below.refl _ _) _⟩
  · have d : (k == 5) = false := by simpa using h5
    go_enter Try.func18, Try.ntmps18
    go_wp2_with fail
    go_ret
    exact ⟨retB (by simp [h5]), bAl (Below.refl _ _) _⟩

def linkH (h : HeadT) (a : AtomT) : HeadT := if h.k = 5 then ⟨2, a.x, a.n, a.t, a.y, ⟨#[]⟩⟩ else if h.k = 6 then ⟨3, a.x, a.n, a.t, a.y, ⟨#[]⟩⟩ else h
set_option maxHeartbeats 1000000 in
theorem linkedHead_any (h : HeadT) (a : AtomT) (w : World) :
    Calls Try.prog 27 #[hAgg h, .agg #[.int .i64 a.x, .int .i64 a.n, .string a.t, .string a.y]] w fun e w' => e = .returned (hAgg (linkH h a)) ∧ Below w.heap.size w w' := by
  obtain ⟨k, x, n, t, y, ty⟩ := h
  obtain ⟨ax, an, at_, ay⟩ := a
  by_cases h5 : k = 5
  · subst h5
    go_enter Try.func27, Try.ntmps27
    go_wp2_with fail
    exact bodyPost_ret (v := hAgg ⟨2, ax, an, at_, ay, ⟨#[]⟩⟩) (by simp [results, Try.results27, go_sem]) rfl ⟨rfl, bAl (bAl (bAl (Below.refl _ _) _) _) _⟩
  by_cases h6 : k = 6
  · subst h6
    go_enter Try.func27, Try.ntmps27
    go_wp2_with fail
    exact bodyPost_ret (v := hAgg ⟨3, ax, an, at_, ay, ⟨#[]⟩⟩) (by simp [results, Try.results27, go_sem]) rfl ⟨rfl, bAl (bAl (bAl (Below.refl _ _) _) _) _⟩
  · have e : Hid (linkH ⟨k, x, n, t, y, ty⟩ ⟨ax, an, at_, ay⟩ = ⟨k, x, n, t, y, ty⟩) := hide (by unfold linkH; rw [if_neg h5, if_neg h6])
    go_enter Try.func27, Try.ntmps27
    go_wp2_with fail
    refine bodyPost_ret (v := hAgg ⟨k, x, n, t, y, ty⟩) (by simp [results, Try.results27, go_sem]) rfl ⟨by rw [unhide e], bAl (bAl (bAl (Below.refl _ _) _) _) _⟩
set_option maxHeartbeats 1000000 in
theorem l10Link_any (h : HeadT) (a : AtomT) (w : World) :
    Calls Try.prog 19 #[hAgg h, .agg #[.int .i64 a.x, .int .i64 a.n, .string a.t, .string a.y]] w fun e w' => e = .returned (hAgg (linkH h a)) ∧ Below w.heap.size w w' := by
  obtain ⟨k, x, n, t, y, ty⟩ := h
  obtain ⟨ax, an, at_, ay⟩ := a
  by_cases h5 : k = 5
  · subst h5
    go_enter Try.func19, Try.ntmps19
    go_wp2_with fail
    exact bodyPost_ret (v := hAgg ⟨2, ax, an, at_, ay, ⟨#[]⟩⟩) (by simp [results, Try.results19, go_sem]) rfl ⟨rfl, bAl (bAl (bAl (Below.refl _ _) _) _) _⟩
  by_cases h6 : k = 6
  · subst h6
    go_enter Try.func19, Try.ntmps19
    go_wp2_with fail
    exact bodyPost_ret (v := hAgg ⟨3, ax, an, at_, ay, ⟨#[]⟩⟩) (by simp [results, Try.results19, go_sem]) rfl ⟨rfl, bAl (bAl (bAl (Below.refl _ _) _) _) _⟩
  · have e : Hid (linkH ⟨k, x, n, t, y, ty⟩ ⟨ax, an, at_, ay⟩ = ⟨k, x, n, t, y, ty⟩) := hide (by unfold linkH; rw [if_neg h5, if_neg h6])
    go_enter Try.func19, Try.ntmps19
    go_wp2_with fail
    refine bodyPost_ret (v := hAgg ⟨k, x, n, t, y, ty⟩) (by simp [results, Try.results19, go_sem]) rfl ⟨by rw [unhide e], bAl (bAl (bAl (Below.refl _ _) _) _) _⟩
end Go.Proofs.Ytcajlndbaipcaaa.V
