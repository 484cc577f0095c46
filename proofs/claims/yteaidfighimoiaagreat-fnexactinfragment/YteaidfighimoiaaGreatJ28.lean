/- FRd, YLk, one behind the other. -/
import Derived.Test.YteaidfighimoiaaGreatJ23
import Derived.Test.YteaidfighimoiaaGreatJ27
import Derived.Test.YteaidfighimoiaaGreatJ25
/- impl.inFragment. -/
namespace Go.Proofs.YteaidfighimoiaaGreat.V
open Go.RowKit Go.Maps

theorem row3F {w : World} {b : Nat} {x y z : ByteArray} {T : TypeId} (h : RowIs w b #[.string x, .string y, .string z] T) : SlS w (some ⟨b, 0, none⟩) 3 [x, y, z] := by
  refine ⟨rfl, .inr ⟨b, 0, rfl, h.lt, fun i hi => ?_⟩⟩
  match i, hi with
  | 0, _ => exact h.at rfl
  | 1, _ => exact h.at rfl
  | 2, _ => exact h.at rfl
theorem row2F {w : World} {b : Nat} {x y : ByteArray} {T : TypeId} (h : RowIs w b #[.string x, .string y] T) : SlS w (some ⟨b, 0, none⟩) 2 [x, y] := by
  refine ⟨rfl, .inr ⟨b, 0, rfl, h.lt, fun i hi => ?_⟩⟩
  match i, hi with
  | 0, _ => exact h.at rfl
  | 1, _ => exact h.at rfl
def FragIs (r : Nat) : Prop := ∀ (wt : World) (lo : Nat) (t : ET) (v : Value), ExAt wt lo r t v → Fit t → ∀ w : World, Calls Tryz.prog 20 #[v] w fun e w' => RetB e (FragN r t) ∧ Below w.heap.size w w'
set_option maxRecDepth 20000 in
set_option maxHeartbeats 1000000 in
theorem frag_lit (P : Prop) (x2 x3 : Int) (x4 x5 : ByteArray) (w : World) (hP : Hid (P ↔ x2 = 1)) :
    Calls Tryz.prog 20 #[.iface 76 (.agg #[.int .i64 x2, .int .i64 x3, .string x4, .string x5])] w fun e w' => RetB e P ∧ Below w.heap.size w w' := by
  have f1 := ta_lit_lit (.agg #[.int .i64 x2, .int .i64 x3, .string x4, .string x5])
  by_cases h1 : x2 = 1
  · have yes := hide ((unhide hP).2 h1)
    subst h1
    go_enter Tryz.func20, Tryz.ntmps20
    go_wp2_with fail
    go_ret
    exact ⟨retB (b := true) ⟨fun _ => unhide yes, fun _ => rfl⟩, bAl (Below.refl _ _) _⟩
  · have no : Hid (¬ P) := hide (fun h => h1 ((unhide hP).1 h))
    have d : (x2 == 1) = false := by simpa using h1
    go_enter Tryz.func20, Tryz.ntmps20
    go_wp2_with fail
    go_ret
    exact ⟨retB (b := false) ⟨fun h => (by cases h), fun h => absurd h (unhide no)⟩, bAl (Below.refl _ _) _⟩
set_option maxRecDepth 20000 in
set_option maxHeartbeats 1000000 in
theorem frag_var (P : Prop) (s : ByteArray) (w : World) (no : Hid (¬ P)) :
    Calls Tryz.prog 20 #[.iface 112 (.agg #[.string s])] w fun e w' => RetB e P ∧ Below w.heap.size w w' := by
  have f1 := ta_var_lit (.agg #[.string s])
  have f2 := ta_var_get (.agg #[.string s])
  have f3 := ta_var_word (.agg #[.string s])
  have f4 := ta_var_sign (.agg #[.string s])
  have f5 := ta_var_pair (.agg #[.string s])
  have f6 := ta_var_if (.agg #[.string s])
  go_enter Tryz.func20, Tryz.ntmps20
  go_wp2_with fail
  go_ret
  exact ⟨retB (b := false) ⟨fun h => (by cases h), fun h => absurd h (unhide no)⟩, Below.refl _ _⟩
set_option maxRecDepth 20000 in
set_option maxHeartbeats 1000000 in
theorem frag_set (P : Prop) (sv : Value) (w : World) (no : Hid (¬ P)) :
    Calls Tryz.prog 20 #[.iface 119 (.agg #[sv])] w fun e w' => RetB e P ∧ Below w.heap.size w w' := by
  have f1 := ta_set_lit (.agg #[sv])
  have f2 := ta_set_get (.agg #[sv])
  have f3 := ta_set_word (.agg #[sv])
  have f4 := ta_set_sign (.agg #[sv])
  have f5 := ta_set_pair (.agg #[sv])
  have f6 := ta_set_if (.agg #[sv])
  go_enter Tryz.func20, Tryz.ntmps20
  go_wp2_with fail
  go_ret
  exact ⟨retB (b := false) ⟨fun h => (by cases h), fun h => absurd h (unhide no)⟩, Below.refl _ _⟩
set_option maxRecDepth 20000 in
set_option maxHeartbeats 1000000 in
theorem frag_get (P : Prop) {wt : World} {lo r : Nat} {k0 : ET} (T0 : TypeId) (u0 : Value) (f : ByteArray) (w : World) (h0 : ExAt wt lo r k0 (.iface T0 u0)) (f0 : Fit k0) (hP : Hid (P ↔ VarT [bPri, bRes, bCon] k0)) :
    Calls Tryz.prog 20 #[.iface 78 (.agg #[.iface T0 u0, .string f])] w fun e w' => RetB e P ∧ Below w.heap.size w w' := by
  have f1 := ta_get_lit (.agg #[.iface T0 u0, .string f])
  have f2 := ta_get_get (.agg #[.iface T0 u0, .string f])
  have q := hide (fun (a : Option Addr) (w1 : World) (hs : SlS w1 a 3 [bPri, bRes, bCon]) => isVarOf_any h0 f0 a 3 3 [bPri, bRes, bCon] w1 (by decide) hs)
  clear h0 f0
  go_enter Tryz.func20, Tryz.ntmps20
  go_wp2_with fail
  have h3 : RowIs ((w.alloc (.cells #[.iface T0 u0, .string f] 78)).alloc (.cells #[.string bPri, .string bRes, .string bCon] 9)) (w.heap.size + 1) #[.string bPri, .string bRes, .string bCon] 9 := by
    have h := RowIs.new (w.alloc (.cells #[.iface T0 u0, .string f] 78)) #[.string bPri, .string bRes, .string bCon] 9
    simpa using h
  refine (unhide q _ _ (row3F h3)).mono ?_
  rintro e w1 ⟨⟨b, rfl, hb⟩, hb1⟩
  have HB := hide hb
  have B1 := hide (bTr (bAl (bAl (Below.refl w.heap.size w) _) _) hb1)
  clear hb hb1 q
  go_wp2_with fail
  go_ret
  exact ⟨retB ((unhide HB).trans (unhide hP).symm), unhide B1⟩
set_option maxRecDepth 20000 in
set_option maxHeartbeats 1000000 in
theorem frag_has (P : Prop) {wt : World} {lo r : Nat} {k0 : ET} (T0 : TypeId) (u0 : Value) (f : ByteArray) (w : World) (h0 : ExAt wt lo r k0 (.iface T0 u0)) (f0 : Fit k0) (hP : Hid (P ↔ VarT [bPri, bRes, bCon] k0)) :
    Calls Tryz.prog 20 #[.iface 81 (.agg #[.int .i64 5, .iface T0 u0, .string f])] w fun e w' => RetB e P ∧ Below w.heap.size w w' := by
  have f1 := ta_word_lit (.agg #[.int .i64 5, .iface T0 u0, .string f])
  have f2 := ta_word_get (.agg #[.int .i64 5, .iface T0 u0, .string f])
  have f3 := ta_word_word (.agg #[.int .i64 5, .iface T0 u0, .string f])
  have q := hide (fun (a : Option Addr) (w1 : World) (hs : SlS w1 a 3 [bPri, bRes, bCon]) => isVarOf_any h0 f0 a 3 3 [bPri, bRes, bCon] w1 (by decide) hs)
  clear h0 f0
  go_enter Tryz.func20, Tryz.ntmps20
  go_wp2_with fail
  have h3 : RowIs ((w.alloc (.cells #[.int .i64 5, .iface T0 u0, .string f] 81)).alloc (.cells #[.string bPri, .string bRes, .string bCon] 9)) (w.heap.size + 1) #[.string bPri, .string bRes, .string bCon] 9 := by
    have h := RowIs.new (w.alloc (.cells #[.int .i64 5, .iface T0 u0, .string f] 81)) #[.string bPri, .string bRes, .string bCon] 9
    simpa using h
  refine (unhide q _ _ (row3F h3)).mono ?_
  rintro e w1 ⟨⟨b, rfl, hb⟩, hb1⟩
  have HB := hide hb
  have B1 := hide (bTr (bAl (bAl (Below.refl w.heap.size w) _) _) hb1)
  have k5 := ((RowIs.new w #[.int .i64 5, .iface T0 u0, .string f] 81).keep (bAl (Below.refl _ _) (.cells #[.string bPri, .string bRes, .string bCon] 9))).keep hb1 |>.at (o := 0) (v := .int .i64 5) rfl
  clear hb hb1 q
  cases b
  · have no : Hid (¬ P) := hide (fun h => by have := (unhide HB).2 ((unhide hP).1 h); cases this)
    clear HB hP
    go_wp2_with fail
    go_ret
    exact ⟨retB (b := false) ⟨fun h => (by cases h), fun h => absurd h (unhide no)⟩, unhide B1⟩
  · have yes : Hid P := hide ((unhide hP).2 ((unhide HB).1 rfl))
    clear HB hP
    go_wp2_with fail
    go_ret
    exact ⟨retB (b := true) ⟨fun _ => unhide yes, fun _ => rfl⟩, unhide B1⟩
set_option maxRecDepth 20000 in
set_option maxHeartbeats 1000000 in
theorem frag_is (P : Prop) {wt : World} {lo r : Nat} {k0 : ET} (T0 : TypeId) (u0 : Value) (f : ByteArray) (w : World) (h0 : ExAt wt lo r k0 (.iface T0 u0)) (f0 : Fit k0) (hP : Hid (P ↔ VarT [bPri, bRes] k0)) :
    Calls Tryz.prog 20 #[.iface 81 (.agg #[.int .i64 21, .iface T0 u0, .string f])] w fun e w' => RetB e P ∧ Below w.heap.size w w' := by
  have f1 := ta_word_lit (.agg #[.int .i64 21, .iface T0 u0, .string f])
  have f2 := ta_word_get (.agg #[.int .i64 21, .iface T0 u0, .string f])
  have f3 := ta_word_word (.agg #[.int .i64 21, .iface T0 u0, .string f])
  have q := hide (fun (a : Option Addr) (w1 : World) (hs : SlS w1 a 2 [bPri, bRes]) => isVarOf_any h0 f0 a 2 2 [bPri, bRes] w1 (by decide) hs)
  clear h0 f0
  go_enter Tryz.func20, Tryz.ntmps20
  go_wp2_with fail
  have h3 : RowIs ((w.alloc (.cells #[.int .i64 21, .iface T0 u0, .string f] 81)).alloc (.cells #[.string bPri, .string bRes] 9)) (w.heap.size + 1) #[.string bPri, .string bRes] 9 := by
    have h := RowIs.new (w.alloc (.cells #[.int .i64 21, .iface T0 u0, .string f] 81)) #[.string bPri, .string bRes] 9
    simpa using h
  refine (unhide q _ _ (row2F h3)).mono ?_
  rintro e w1 ⟨⟨b, rfl, hb⟩, hb1⟩
  have HB := hide hb
  have B1 := hide (bTr (bAl (bAl (Below.refl w.heap.size w) _) _) hb1)
  clear hb hb1 q
  go_wp2_with fail
  go_ret
  exact ⟨retB ((unhide HB).trans (unhide hP).symm), unhide B1⟩
set_option maxRecDepth 20000 in
set_option maxHeartbeats 1000000 in
theorem frag_like (P : Prop) (T0 : TypeId) (u0 : Value) (f : ByteArray) (w : World) (no : Hid (¬ P)) :
    Calls Tryz.prog 20 #[.iface 81 (.agg #[.int .i64 20, .iface T0 u0, .string f])] w fun e w' => RetB e P ∧ Below w.heap.size w w' := by
  have f1 := ta_word_lit (.agg #[.int .i64 20, .iface T0 u0, .string f])
  have f2 := ta_word_get (.agg #[.int .i64 20, .iface T0 u0, .string f])
  have f3 := ta_word_word (.agg #[.int .i64 20, .iface T0 u0, .string f])
  go_enter Tryz.func20, Tryz.ntmps20
  go_wp2_with fail
  go_ret
  exact ⟨retB (b := false) ⟨fun h => (by cases h), fun h => absurd h (unhide no)⟩, bAl (Below.refl _ _) _⟩
set_option maxRecDepth 20000 in
set_option maxHeartbeats 1000000 in
theorem frag_not (P : Prop) (r : Nat) (ih : FragIs r) {wt : World} {lo : Nat} {k0 : ET} (T0 : TypeId) (u0 : Value) (w : World) (h0 : ExAt wt lo r k0 (.iface T0 u0)) (f0 : Fit k0) (hP : Hid (P ↔ FragN r k0)) :
    Calls Tryz.prog 20 #[.iface 83 (.agg #[.int .i64 6, .iface T0 u0])] w fun e w' => RetB e P ∧ Below w.heap.size w w' := by
  have f1 := ta_sign_lit (.agg #[.int .i64 6, .iface T0 u0])
  have f2 := ta_sign_get (.agg #[.int .i64 6, .iface T0 u0])
  have f3 := ta_sign_word (.agg #[.int .i64 6, .iface T0 u0])
  have f4 := ta_sign_sign (.agg #[.int .i64 6, .iface T0 u0])
  have q := hide (ih _ _ _ _ h0 f0)
  clear h0 f0 ih
  go_enter Tryz.func20, Tryz.ntmps20
  go_wp2_with fail
  refine (unhide q _).mono ?_
  rintro e w1 ⟨⟨b, rfl, hb⟩, hb1⟩
  have HB := hide hb
  have B1 := hide (bTr (bAl (Below.refl w.heap.size w) _) hb1)
  clear hb hb1 q
  go_wp2_with fail
  go_ret
  exact ⟨retB ((unhide HB).trans (unhide hP).symm), unhide B1⟩
set_option maxRecDepth 20000 in
set_option maxHeartbeats 1000000 in
theorem frag_neg (P : Prop) (T0 : TypeId) (u0 : Value) (w : World) (no : Hid (¬ P)) :
    Calls Tryz.prog 20 #[.iface 83 (.agg #[.int .i64 7, .iface T0 u0])] w fun e w' => RetB e P ∧ Below w.heap.size w w' := by
  have f1 := ta_sign_lit (.agg #[.int .i64 7, .iface T0 u0])
  have f2 := ta_sign_get (.agg #[.int .i64 7, .iface T0 u0])
  have f3 := ta_sign_word (.agg #[.int .i64 7, .iface T0 u0])
  have f4 := ta_sign_sign (.agg #[.int .i64 7, .iface T0 u0])
  go_enter Tryz.func20, Tryz.ntmps20
  go_wp2_with fail
  go_ret
  exact ⟨retB (b := false) ⟨fun h => (by cases h), fun h => absurd h (unhide no)⟩, bAl (Below.refl _ _) _⟩
set_option maxRecDepth 20000 in
set_option maxHeartbeats 1000000 in
theorem frag_if (P : Prop) (r : Nat) (ih : FragIs r) {wt : World} {lo : Nat} (x y z : IE) (w : World) (hx : ExAt wt lo r x.t (.iface x.T x.u)) (hy : ExAt wt lo r y.t (.iface y.T y.u)) (hz : ExAt wt lo r z.t (.iface z.T z.u)) (fx : Fit x.t) (fy : Fit y.t) (fz : Fit z.t) (hP : Hid (P ↔ ∀ k ∈ [x, y, z], FragN r k.t)) :
    Calls Tryz.prog 20 #[.iface 93 (.agg #[.iface x.T x.u, .iface y.T y.u, .iface z.T z.u])] w fun e w' => RetB e P ∧ Below w.heap.size w w' := by
  have f1 := ta_if_lit (.agg #[.iface x.T x.u, .iface y.T y.u, .iface z.T z.u])
  have f2 := ta_if_get (.agg #[.iface x.T x.u, .iface y.T y.u, .iface z.T z.u])
  have f3 := ta_if_word (.agg #[.iface x.T x.u, .iface y.T y.u, .iface z.T z.u])
  have f4 := ta_if_sign (.agg #[.iface x.T x.u, .iface y.T y.u, .iface z.T z.u])
  have f5 := ta_if_pair (.agg #[.iface x.T x.u, .iface y.T y.u, .iface z.T z.u])
  have f6 := ta_if_if (.agg #[.iface x.T x.u, .iface y.T y.u, .iface z.T z.u])
  have q1 := hide (kidsOf_if x y z)
  have q2 := hide (fun (h : HdI) (w1 : World) (hs : SqI w1 0 h [x, y, z]) => every_Frag (fun k => FragN r k.t) h [x, y, z] w1 (by unfold maxLen; simp) hs (fun k hk w' _ => by
    simp only [List.mem_cons, List.not_mem_nil, or_false] at hk
    rcases hk with rfl | rfl | rfl
    · exact ih _ _ _ _ hx fx w'
    · exact ih _ _ _ _ hy fy w'
    · exact ih _ _ _ _ hz fz w'))
  clear hx hy hz fx fy fz ih
  go_enter Tryz.func20, Tryz.ntmps20
  go_wp2_with fail
  refine (unhide q1 _).mono ?_
  rintro e w1 ⟨⟨h, rfl, hs⟩, hb1⟩
  have HS := hide hs
  have B1 := hide (bTr (bAl (Below.refl w.heap.size w) _) hb1)
  clear hs hb1 q1
  go_wp2_with fail
  refine (unhide q2 h _ (unhide HS)).mono ?_
  rintro e w2 ⟨⟨b, rfl, hb⟩, hb2⟩
  have HB := hide hb
  replace B1 := hide (bTr (unhide B1) hb2)
  clear hb hb2 q2
  go_wp2_with fail
  go_ret
  exact ⟨retB ((unhide HB).trans (unhide hP).symm), unhide B1⟩
set_option maxRecDepth 20000 in
set_option maxHeartbeats 4000000 in
theorem frag_pair (P : Prop) (r : Nat) (ih : FragIs r) {wt : World} {lo : Nat} {k0 k1 : ET} (kd : Int) (T0 T1 : TypeId) (u0 u1 : Value) (w : World) (h0 : ExAt wt lo r k0 (.iface T0 u0)) (f0 : Fit k0) (h1 : ExAt wt lo r k1 (.iface T1 u1)) (g1 : Fit k1) (hP : Hid (P ↔ (LitP kd k0 k1 ∨ ((kd = 8 ∨ kd = 9) ∧ FragN r k0 ∧ FragN r k1)))) :
    Calls Tryz.prog 20 #[.iface 85 (.agg #[.int .i64 kd, .iface T0 u0, .iface T1 u1])] w fun e w' => RetB e P ∧ Below w.heap.size w w' := by
  have f1 := ta_pair_lit (.agg #[.int .i64 kd, .iface T0 u0, .iface T1 u1])
  have f2 := ta_pair_get (.agg #[.int .i64 kd, .iface T0 u0, .iface T1 u1])
  have f3 := ta_pair_word (.agg #[.int .i64 kd, .iface T0 u0, .iface T1 u1])
  have f4 := ta_pair_sign (.agg #[.int .i64 kd, .iface T0 u0, .iface T1 u1])
  have f5 := ta_pair_pair (.agg #[.int .i64 kd, .iface T0 u0, .iface T1 u1])
  have q1 := hide (litAskOf_any h0 f0 h1 g1 kd)
  have q2 := hide (ih _ _ _ _ h0 f0)
  have q3 := hide (ih _ _ _ _ h1 g1)
  have R := hide (RowIs.new w #[.int .i64 kd, .iface T0 u0, .iface T1 u1] 85)
  clear h0 f0 h1 g1 ih
  go_enter Tryz.func20, Tryz.ntmps20
  go_wp2_with fail
  refine (unhide q1 _).mono ?_
  rintro e w1 ⟨⟨p, f, k, x, n, t, y, b, rfl, hb⟩, hb1⟩
  have R1 := hide ((unhide R).keep hb1)
  have B1 := hide (bTr (bAl (Below.refl w.heap.size w) _) hb1)
  have HB := hide hb
  clear hb hb1 q1 R
  have r0 := (unhide R1).at (o := 0) (v := .int .i64 kd) rfl
  have r1 := (unhide R1).at (o := 1) (v := .iface T0 u0) rfl
  have r2 := (unhide R1).at (o := 2) (v := .iface T1 u1) rfl
  have zr := (unhide R1).lt
  cases b with
  | true =>
    have yes : Hid P := hide ((unhide hP).2 (.inl ((unhide HB).1 rfl)))
    clear HB hP
    by_cases h8 : kd = 8
    · subst h8
      go_wp2_with fail
      go_ret
      exact ⟨retB (b := true) ⟨fun _ => unhide yes, fun _ => rfl⟩, bAl (unhide B1) _⟩
    by_cases h9 : kd = 9
    · subst h9
      go_wp2_with fail
      go_ret
      exact ⟨retB (b := true) ⟨fun _ => unhide yes, fun _ => rfl⟩, bAl (unhide B1) _⟩
    have e8 : (kd == 8) = false := by simpa using h8
    have e9 : (kd == 9) = false := by simpa using h9
    go_wp2_with fail
    go_ret
    exact ⟨retB (b := true) ⟨fun _ => unhide yes, fun _ => rfl⟩, bAl (unhide B1) _⟩
  | false =>
    have nl : Hid (¬ LitP kd k0 k1) := hide (fun h => by have := (unhide HB).2 h; cases this)
    clear HB
    by_cases h8 : kd = 8
    · subst h8
      have PP : Hid (P ↔ (FragN r k0 ∧ FragN r k1)) := hide ((unhide hP).trans ⟨fun h => (h.resolve_left (unhide nl)).2, fun h => .inr ⟨by omega, h⟩⟩)
      clear hP nl
      go_wp2_with fail
      refine (unhide q2 _).mono ?_
      rintro e w2 ⟨⟨b2, rfl, hb2⟩, hb3⟩
      have R2 := (unhide R1).keep ((bAl (Below.refl _ _) _).trans (hb3.mono (by simp)))
      have B2 := hide (bTr (bAl (unhide B1) _) hb3)
      have r0 := R2.at (o := 0) (v := .int .i64 8) rfl
      have r1 := R2.at (o := 1) (v := .iface T0 u0) rfl
      have r2 := R2.at (o := 2) (v := .iface T1 u1) rfl
      have zr := R2.lt
      have H2 := hide hb2
      clear hb2 hb3 q2 R2 B1 R1
      cases b2 with
      | false =>
        have no : Hid (¬ P) := hide (fun h => by have := (unhide H2).2 ((unhide PP).1 h).1; cases this)
        clear H2 PP q3
        go_wp2_with fail
        go_ret
        exact ⟨retB (b := false) ⟨fun h => (by cases h), fun h => absurd h (unhide no)⟩, unhide B2⟩
      | true =>
        have PQ : Hid (P ↔ FragN r k1) := hide ((unhide PP).trans ⟨fun h => h.2, fun h => ⟨(unhide H2).1 rfl, h⟩⟩)
        clear H2 PP
        go_wp2_with fail
        refine (unhide q3 _).mono ?_
        rintro e w3 ⟨⟨b3, rfl, hb3⟩, hb4⟩
        have B3 := hide (bTr (unhide B2) hb4)
        have H3 := hide hb3
        clear hb3 hb4 q3 r0 r1 r2
        go_wp2_with fail
        go_ret
        exact ⟨retB ((unhide H3).trans (unhide PQ).symm), unhide B3⟩
    by_cases h9 : kd = 9
    · subst h9
      have PP : Hid (P ↔ (FragN r k0 ∧ FragN r k1)) := hide ((unhide hP).trans ⟨fun h => (h.resolve_left (unhide nl)).2, fun h => .inr ⟨by omega, h⟩⟩)
      clear hP nl
      go_wp2_with fail
      refine (unhide q2 _).mono ?_
      rintro e w2 ⟨⟨b2, rfl, hb2⟩, hb3⟩
      have R2 := (unhide R1).keep ((bAl (Below.refl _ _) _).trans (hb3.mono (by simp)))
      have B2 := hide (bTr (bAl (unhide B1) _) hb3)
      have r0 := R2.at (o := 0) (v := .int .i64 9) rfl
      have r1 := R2.at (o := 1) (v := .iface T0 u0) rfl
      have r2 := R2.at (o := 2) (v := .iface T1 u1) rfl
      have zr := R2.lt
      have H2 := hide hb2
      clear hb2 hb3 q2 R2 B1 R1
      cases b2 with
      | false =>
        have no : Hid (¬ P) := hide (fun h => by have := (unhide H2).2 ((unhide PP).1 h).1; cases this)
        clear H2 PP q3
        go_wp2_with fail
        go_ret
        exact ⟨retB (b := false) ⟨fun h => (by cases h), fun h => absurd h (unhide no)⟩, unhide B2⟩
      | true =>
        have PQ : Hid (P ↔ FragN r k1) := hide ((unhide PP).trans ⟨fun h => h.2, fun h => ⟨(unhide H2).1 rfl, h⟩⟩)
        clear H2 PP
        go_wp2_with fail
        refine (unhide q3 _).mono ?_
        rintro e w3 ⟨⟨b3, rfl, hb3⟩, hb4⟩
        have B3 := hide (bTr (unhide B2) hb4)
        have H3 := hide hb3
        clear hb3 hb4 q3 r0 r1 r2
        go_wp2_with fail
        go_ret
        exact ⟨retB ((unhide H3).trans (unhide PQ).symm), unhide B3⟩
    have e8 : (kd == 8) = false := by simpa using h8
    have e9 : (kd == 9) = false := by simpa using h9
    have no : Hid (¬ P) := hide (fun h => by rcases (unhide hP).1 h with g | g; exact unhide nl g; omega)
    clear hP nl
    go_wp2_with fail
    go_ret
    exact ⟨retB (b := false) ⟨fun h => (by cases h), fun h => absurd h (unhide no)⟩, bAl (unhide B1) _⟩
theorem inFragment_any : ∀ r : Nat, FragIs r
  | 0 => fun _ _ t _ h _ _ => by cases t; exact h.elim
  | r + 1 => fun wt lo t v h hf w => by
    cases t with
    | node x ks =>
      have ih := inFragment_any r
      have fk := hf.out.2.2.1
      rcases h.view hf with ⟨h1, rfl⟩ | ⟨h1, sv, rfl⟩ | ⟨h1, rfl⟩ | ⟨h1, k0, v0, rfl, h0, rfl⟩ | ⟨h1, k0, v0, rfl, h0, rfl⟩ | ⟨h1, k0, v0, rfl, h0, rfl⟩ | ⟨h1, k0, k1, k2, v0, v1, v2, rfl, h0, g1, g2, rfl⟩ | ⟨h1, k0, k1, v0, v1, rfl, h0, g1, rfl⟩
      · exact frag_lit _ _ _ _ _ w (hide (by simp [FragN, h1]))
      · exact frag_set _ sv w (hide (by simp [FragN, h1]))
      · exact frag_var _ _ w (hide (by simp [FragN, h1]))
      · obtain ⟨T0, u0, rfl⟩ := h0.iface (fk k0 (by simp))
        exact frag_get _ T0 u0 _ w h0 (fk k0 (by simp)) (hide (by simp [FragN, h1]))
      · obtain ⟨T0, u0, rfl⟩ := h0.iface (fk k0 (by simp))
        rcases h1 with h1 | h1 | h1
        · rw [h1]; exact frag_has _ T0 u0 _ w h0 (fk k0 (by simp)) (hide (by simp [FragN, h1]))
        · rw [h1]; exact frag_like _ T0 u0 _ w (hide (by simp [FragN, h1]))
        · rw [h1]; exact frag_is _ T0 u0 _ w h0 (fk k0 (by simp)) (hide (by simp [FragN, h1]))
      · obtain ⟨T0, u0, rfl⟩ := h0.iface (fk k0 (by simp))
        rcases h1 with h1 | h1
        · rw [h1]; exact frag_not _ r ih T0 u0 w h0 (fk k0 (by simp)) (hide (by simp [FragN, h1]))
        · rw [h1]; exact frag_neg _ T0 u0 w (hide (by simp [FragN, h1]))
      · obtain ⟨T0, u0, rfl⟩ := h0.iface (fk k0 (by simp))
        obtain ⟨T1, u1, rfl⟩ := g1.iface (fk k1 (by simp))
        obtain ⟨T2, u2, rfl⟩ := g2.iface (fk k2 (by simp))
        exact frag_if _ r ih ⟨k0, T0, u0⟩ ⟨k1, T1, u1⟩ ⟨k2, T2, u2⟩ w h0 g1 g2 (fk k0 (by simp)) (fk k1 (by simp)) (fk k2 (by simp)) (hide (by simp [FragN, h1]))
      · obtain ⟨T0, u0, rfl⟩ := h0.iface (fk k0 (by simp))
        obtain ⟨T1, u1, rfl⟩ := g1.iface (fk k1 (by simp))
        exact frag_pair _ r ih _ T0 T1 u0 u1 w h0 (fk k0 (by simp)) g1 (fk k1 (by simp)) (hide (by rw [FragN.pair h1, LitP.iff (fk k0 (by simp)) (fk k1 (by simp))]))
end Go.Proofs.YteaidfighimoiaaGreat.V
/- Slots and what is linked: spec.l10Slot, l10Link, impl.linkedHead. -/
namespace Go.Proofs.YteaidfighimoiaaGreat.V
open Go.RowKit Go.Maps

theorem l10Slot_any (h : HeadT) (w : World) :
    Calls Tryz.prog 12 #[hAgg h] w fun e w' => RetB e (h.k = 5 ∨ h.k = 6) ∧ Below w.heap.size w w' := by
  obtain ⟨k, x, n, t, y, ty⟩ := h
  simp only
  by_cases h5 : k = 5
  · subst h5
    go_enter Tryz.func12, Tryz.ntmps12
    go_wp2_with fail
    go_ret
    exact ⟨retB (by simp), bAl (Below.refl _ _) _⟩
  · have d : (k == 5) = false := by simpa using h5
    go_enter Tryz.func12, Tryz.ntmps12
    go_wp2_with fail
    go_ret
    exact ⟨retB (by simp [h5]), bAl (Below.refl _ _) _⟩

def linkH (h : HeadT) (a : AtomT) : HeadT := if h.k = 5 then ⟨2, a.x, a.n, a.t, a.y, ⟨#[]⟩⟩ else if h.k = 6 then ⟨3, a.x, a.n, a.t, a.y, ⟨#[]⟩⟩ else h
end Go.Proofs.YteaidfighimoiaaGreat.V
