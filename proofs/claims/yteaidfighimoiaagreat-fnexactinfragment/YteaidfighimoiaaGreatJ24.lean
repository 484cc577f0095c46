/- YHd, YGrf, one behind the other. -/
import Derived.Test.YteaidfighimoiaaGreatJ11
import Derived.Test.YteaidfighimoiaaGreatJ23
import Derived.Test.YteaidfighimoiaaGreatJ16
/- Heads: impl.isRef, goodHead, Head.isSlot; spec.l10GoodHead. -/
namespace Go.Proofs.YteaidfighimoiaaGreat.V
open Go.RowKit Go.Maps

structure HeadT where
  k : Int
  x : Int
  n : Int
  t : ByteArray
  y : ByteArray
  ty : ByteArray
structure HeadT.Ok (h : HeadT) : Prop where
  n8 : -9223372036854775808 ≤ h.n
  n9 : h.n ≤ 9223372036854775807
  t9 : h.t.size ≤ maxLen
  y9 : h.y.size ≤ maxLen
  ty9 : h.ty.size ≤ maxLen
abbrev hAgg (h : HeadT) : Value := .agg #[.int .i64 h.k, .int .i64 h.x, .int .i64 h.n, .string h.t, .string h.y, .string h.ty]
def zHd (h : HeadT) : Prop := h.x = 0 ∧ h.n = 0 ∧ h.t = empE ∧ h.y = empE
def HeadP (h : HeadT) : Prop :=
  if h.k = 1 ∨ h.k = 5 ∨ h.k = 6 then zHd h ∧ h.ty = empE else if h.k = 2 ∨ h.k = 3 then h.x = 4 ∧ goodAtom h.x h.n h.t h.y = true ∧ h.ty = empE else if h.k = 4 then zHd h ∧ goodName h.ty = true else False

theorem isRefH_any (x n : Int) (t y : ByteArray) (w : World) (h9 : n ≤ 9223372036854775807) (ht : t.size ≤ maxLen) (hy : y.size ≤ maxLen) :
    Calls Tryz.prog 55 #[.agg #[.int .i64 x, .int .i64 n, .string t, .string y]] w fun e w' => RetB e (x = 4 ∧ goodAtom x n t y = true) ∧ Below w.heap.size w w' := by
  have q := hide (fun w => iGoodAtom_any x n t y w h9 ht hy)
  clear ht hy h9
  by_cases h : x = 4
  · subst h
    generalize goodAtom 4 n t y = G at *
    go_enter Tryz.func55, Tryz.ntmps55
    go_wp2_with fail
    refine (unhide q _).mono ?_
    rintro e w1 ⟨rfl, hb1⟩
    have B := hide hb1
    clear hb1
    go_wp2_with fail
    go_ret
    exact ⟨retB (by simp), bTr (bAl (Below.refl _ _) _) (unhide B)⟩
  · clear q
    have d : (x == 4) = false := by simpa using h
    go_enter Tryz.func55, Tryz.ntmps55
    go_wp2_with fail
    go_ret
    exact ⟨retB (by simp [h]), bAl (Below.refl _ _) _⟩

set_option maxRecDepth 20000 in
set_option maxHeartbeats 1000000 in
theorem goodHead_any (h : HeadT) (w : World) (ho : h.Ok) :
    Calls Tryz.prog 35 #[hAgg h] w fun e w' => RetB e (HeadP h) ∧ Below w.heap.size w w' := by
  have q1 := hide (fun w => isRefH_any h.x h.n h.t h.y w ho.n9 ho.t9 ho.y9)
  have q2 := hide (iGoodName_any h.ty ho.ty9)
  clear ho
  obtain ⟨k, x, n, t, y, ty⟩ := h
  simp only [HeadP, zHd] at *
  by_cases h1 : k = 1 ∨ k = 5 ∨ k = 6
  · simp only [if_pos h1]
    clear q1 q2
    rcases h1 with rfl | rfl | rfl
    all_goals go_enter Tryz.func35, Tryz.ntmps35
    all_goals go_wp2_with fail
    all_goals go_ret
    all_goals refine ⟨retB ?_, bAl (Below.refl _ _) _⟩
    all_goals simp only [empE_iff]
    all_goals simp_all
  by_cases h2 : k = 2 ∨ k = 3
  · simp only [if_neg h1, if_pos h2]
    clear q2 h1
    generalize goodAtom x n t y = G at *
    rcases h2 with rfl | rfl
    all_goals go_enter Tryz.func35, Tryz.ntmps35
    all_goals go_wp2_with (refine (unhide q1 _).mono ?_; rintro e w1 ⟨⟨b1, rfl, g1⟩, hb1⟩; replace g1 := hide g1; replace hb1 := hide hb1)
    all_goals go_ret
    all_goals (first | refine ⟨retB ?_, bAl (Below.refl _ _) _⟩ | refine ⟨retB ?_, bTr (bAl (Below.refl _ _) _) (unhide hb1)⟩)
    all_goals simp only [empE_iff]
    all_goals (try replace g1 := unhide g1)
    all_goals simp_all
  by_cases h4 : k = 4
  · simp only [if_neg h1, if_neg h2, if_pos h4]
    clear q1 h1 h2
    subst h4
    generalize goodName ty = G at *
    go_enter Tryz.func35, Tryz.ntmps35
    go_wp2_with (refine (unhide q2 _).mono ?_; rintro e w1 ⟨rfl, hb1⟩; replace hb1 := hide hb1)
    all_goals go_ret
    all_goals (first | refine ⟨retB ?_, bAl (Below.refl _ _) _⟩ | refine ⟨retB ?_, bTr (bAl (Below.refl _ _) _) (unhide hb1)⟩)
    all_goals simp only [empE_iff]
    all_goals simp_all
  · simp only [if_neg h1, if_neg h2, if_neg h4]
    simp only [not_or] at h1 h2
    obtain ⟨a1, a5, a6⟩ := h1
    obtain ⟨a2, a3⟩ := h2
    clear q1 q2
    go_enter Tryz.func35, Tryz.ntmps35
    go_wp2_with fail
    go_ret
    exact ⟨retB (b := false) (by simp), bAl (Below.refl _ _) _⟩

theorem isSlot_any (h : HeadT) (w : World) :
    Calls Tryz.prog 18 #[hAgg h] w fun e w' => RetB e (h.k = 5 ∨ h.k = 6) ∧ Below w.heap.size w w' := by
  obtain ⟨k, x, n, t, y, ty⟩ := h
  simp only
  by_cases h5 : k = 5
  · subst h5
    go_enter Tryz.func18, Tryz.ntmps18
    go_wp2_with fail
    go_ret
    exact ⟨retB (by simp), bAl (Below.refl _ _) _⟩
  · have d : (k == 5) = false := by simpa using h5
    go_enter Tryz.func18, Tryz.ntmps18
    go_wp2_with fail
    go_ret
    exact ⟨retB (by simp [h5]), bAl (Below.refl _ _) _⟩

set_option maxRecDepth 20000 in
set_option maxHeartbeats 1000000 in
theorem l10GoodHead_any (h : HeadT) (sl : Bool) (w : World) (ho : h.Ok) :
    Calls Tryz.prog 26 #[hAgg h, .bool sl] w fun e w' => RetB e (HeadP h ∧ (sl = true ∨ ¬ (h.k = 5 ∨ h.k = 6))) ∧ Below w.heap.size w w' := by
  have q1 := hide (fun w => sGoodAtom_any h.x h.n h.t h.y w ho.n9 ho.t9 ho.y9)
  have q2 := hide (sGoodName_any h.ty ho.ty9)
  clear ho
  obtain ⟨k, x, n, t, y, ty⟩ := h
  simp only [HeadP, zHd] at *
  by_cases h1 : k = 1
  · subst h1
    clear q1 q2
    go_enter Tryz.func26, Tryz.ntmps26
    go_wp2_with fail
    all_goals go_ret
    all_goals refine ⟨retB ?_, bAl (Below.refl _ _) _⟩
    all_goals (try simp only [empE_iff])
    all_goals simp_all
  by_cases h5 : k = 5 ∨ k = 6
  · clear q1 q2 h1
    cases sl
    all_goals rcases h5 with rfl | rfl
    all_goals go_enter Tryz.func26, Tryz.ntmps26
    all_goals go_wp2_with fail
    all_goals go_ret
    all_goals refine ⟨retB ?_, bAl (Below.refl _ _) _⟩
    all_goals (try simp only [empE_iff])
    all_goals simp_all
  have n5 : (sl = true ∨ ¬ (k = 5 ∨ k = 6)) = True := by simp [h5]
  simp only [n5, and_true]
  have n1 : ¬ (k = 1 ∨ k = 5 ∨ k = 6) := by simp only [not_or] at h5 ⊢; exact ⟨h1, h5⟩
  simp only [if_neg n1]
  clear n5
  by_cases h2 : k = 2 ∨ k = 3
  · simp only [if_pos h2]
    clear q2 h1 h5 n1
    have R0 := hide (RowIs.new w #[.int .i64 k, .int .i64 x, .int .i64 n, .string t, .string y, .string ty] 33)
    by_cases hx : x = 4
    · subst hx
      generalize goodAtom 4 n t y = G at *
      rcases h2 with rfl | rfl
      all_goals go_enter Tryz.func26, Tryz.ntmps26
      all_goals go_wp2_with (refine (unhide q1 _).mono ?_; rintro e w1 ⟨rfl, hb1⟩; have c5 := ((unhide R0).keep hb1).at (o := 5) (v := .string ty) rfl; replace hb1 := hide hb1)
      all_goals go_ret
      all_goals refine ⟨retB ?_, bTr (bAl (Below.refl _ _) _) (unhide hb1)⟩
      all_goals (try simp only [empE_iff])
      all_goals simp_all
    · have d : (x == 4) = false := by simpa using hx
      rcases h2 with rfl | rfl
      all_goals go_enter Tryz.func26, Tryz.ntmps26
      all_goals go_wp2_with fail
      all_goals go_ret
      all_goals exact ⟨retB (b := false) (by simp [hx]), bAl (Below.refl _ _) _⟩
  by_cases h4 : k = 4
  · simp only [if_neg h2, if_pos h4]
    clear q1 h1 h2 h5 n1
    subst h4
    generalize goodName ty = G at *
    go_enter Tryz.func26, Tryz.ntmps26
    go_wp2_with (refine (unhide q2 _).mono ?_; rintro e w1 ⟨rfl, rfl⟩)
    all_goals go_ret
    all_goals refine ⟨retB ?_, bAl (Below.refl _ _) _⟩
    all_goals (try simp only [empE_iff])
    all_goals simp_all
  · simp only [if_neg h2, if_neg h4]
    simp only [not_or] at h5 h2
    obtain ⟨a5, a6⟩ := h5
    obtain ⟨a2, a3⟩ := h2
    clear q1 q2 n1
    go_enter Tryz.func26, Tryz.ntmps26
    go_wp2_with fail
    go_ret
    exact ⟨retB (b := false) (by simp), bAl (Below.refl _ _) _⟩
end Go.Proofs.YteaidfighimoiaaGreat.V
/- impl.exprOf, GoodExpr. -/
namespace Go.Proofs.YteaidfighimoiaaGreat.V
open Go.RowKit Go.Maps

set_option maxRecDepth 20000 in
set_option maxHeartbeats 1000000 in
theorem exprOf_any (a : Option Addr) (len cap : Nat) (l : List ExprT) (w : World) (hl : len ≤ 1048576) (hc : len ≤ cap) (hs : SlExpr w a len l) (hok : ∀ q ∈ l, ExprT.Ok q) :
    Calls Tryz.prog 19 #[.slice a len cap] w fun e w' => (∃ v b, e = .returned (.tuple #[v, .bool b]) ∧ (b = true ↔ GExpr l)) ∧ Below w.heap.size w w' := by
  by_cases h60 : len ≤ 60
  · have q := hide (growExpr_any w.heap.size 12 a len cap l w (by omega) (by omega) hc hs hok hs.inB (Nat.le_refl _))
    have HL := hide hs.1
    clear hs hok hc
    go_enter Tryz.func19, Tryz.ntmps19
    go_wp2_with fail
    refine (unhide q).mono ?_
    rintro e w1 ⟨(⟨hg, v1, v2, rfl⟩ | ⟨t, l', T, u, a', cap', hg, rfl, _⟩), hb1⟩
    · have no : Hid (¬ GExpr l) := hide (fun ⟨_, t, h⟩ => by rw [hg] at h; cases h)
      clear hg q
      go_wp2_with fail
      go_ret2
      exact ⟨⟨_, _, rfl, ⟨fun h => (by cases h), fun h => absurd h (unhide no)⟩⟩, hb1⟩
    · cases l' with
      | nil =>
        have yes : Hid (GExpr l) := hide ⟨by have := unhide HL; omega, t, hg⟩
        clear hg q
        go_wp2_with fail
        go_ret2
        exact ⟨⟨_, _, rfl, ⟨fun _ => unhide yes, fun _ => rfl⟩⟩, hb1⟩
      | cons y l2 =>
        have no : Hid (¬ GExpr l) := hide (fun ⟨_, t', h⟩ => by rw [hg] at h; simp at h)
        have d : ((l2.length : Int) + 1 == 0) = false := by simp; omega
        clear hg q
        go_wp2_with fail
        go_ret2
        exact ⟨⟨_, _, rfl, ⟨fun h => (by simp at h), fun h => absurd h (unhide no)⟩⟩, hb1⟩
  · have no : Hid (¬ GExpr l) := hide (fun ⟨h, _⟩ => by rw [← hs.1] at h; exact h60 h)
    have d : ¬ len ≤ 60 := h60
    clear hs hok hc
    go_enter Tryz.func19, Tryz.ntmps19
    go_wp2_with fail
    go_ret2
    exact ⟨⟨_, _, rfl, ⟨fun h => (by cases h), fun h => absurd h (unhide no)⟩⟩, Below.refl _ _⟩

theorem iGoodExpr_any (a : Option Addr) (len cap : Nat) (l : List ExprT) (w : World) (hl : len ≤ 1048576) (hc : len ≤ cap) (hs : SlExpr w a len l) (hok : ∀ q ∈ l, ExprT.Ok q) :
    Calls Tryz.prog 36 #[.slice a len cap] w fun e w' => RetB e (GExpr l) ∧ Below w.heap.size w w' := by
  have q := hide (exprOf_any a len cap l w hl hc hs hok)
  clear hs hok hc
  go_enter Tryz.func36, Tryz.ntmps36
  go_wp2_with fail
  refine (unhide q).mono ?_
  rintro e w1 ⟨⟨v, b, rfl, h⟩, hb1⟩
  have H := hide h
  clear h q
  go_wp2_with fail
  go_ret
  exact ⟨retB (unhide H), hb1⟩
end Go.Proofs.YteaidfighimoiaaGreat.V
