/- YNoe, WValT, one behind the other. -/
import Derived.Test.YteaidfighimoiaaGreatJ10
/- impl.goodExprNode, the rest. -/
namespace Go.Proofs.YteaidfighimoiaaGreat.V
open Go.RowKit Go.Maps

set_option maxRecDepth 20000 in
set_option maxHeartbeats 1000000 in
theorem node20_any (x : ExprT) (w : World) (hx : x.Ok) (hk : x.f0 = 20) :
    Calls Tryz.prog 57 #[eAgg x] w fun e w' => RetB e (zEx x ∧ x.f6 = 1 ∧ x.f1.size ≤ 200 ∧ textL x.f1 = true ∧ (toks x.f1.data.toList).isSome = true) ∧ Below w.heap.size w w' := by
  obtain ⟨f0, f1, f2, f3, f4, f5, f6⟩ := x
  simp only [zEx] at *
  have q := hide (goodText_any f1 hx.o1)
  have q2 := hide (isPattern_any f1)
  have ho := hx.o1
  unfold maxLen at ho
  clear hx
  subst hk
  have R0 := hide (fun g2 g3 g4 g5 g6 => RowIs.new w #[.int .i64 20, .string f1, .int .i64 g2, .int .i64 g3, .string g4, .string g5, .int .i64 g6] 44)
  generalize textL f1 = X at *
  generalize (toks f1.data.toList).isSome = Y at *
  by_cases hd : f1.size ≤ 200
  · simp only [hd, decide_true, Bool.true_and, true_and] at q ⊢
    replace q2 := hide (unhide q2 hd)
    clear hd ho
    cases X
    all_goals go_enter Tryz.func57, Tryz.ntmps57
    all_goals go_wp2_with (first | (refine (unhide q _).mono ?_; rintro e w1 ⟨rfl, hb1⟩; have c1 := ((unhide R0 _ _ _ _ _).keep hb1).at (o := 1) (v := .string f1) rfl; have z1 := ((unhide R0 _ _ _ _ _).keep hb1).lt; replace hb1 := hide hb1) | (refine (unhide q2 _).mono ?_; rintro e w2 ⟨⟨b2, rfl, h2⟩, hb2⟩; replace h2 := hide h2; replace hb2 := hide hb2))
    all_goals go_ret
    all_goals (first | refine ⟨retB ?_, bAl (Below.refl _ _) _⟩ | refine ⟨retB ?_, bTr (bAl (Below.refl _ _) _) (unhide hb1)⟩ | refine ⟨retB ?_, bTr (bTr (bAl (Below.refl _ _) _) (unhide hb1)) (unhide hb2)⟩)
    all_goals simp only [empE_iff]
    all_goals (try replace h2 := unhide h2)
    all_goals simp_all
  · simp only [hd, decide_false, Bool.false_and, false_and, and_false] at q ⊢
    clear q2 hd ho
    go_enter Tryz.func57, Tryz.ntmps57
    go_wp2_with (refine (unhide q _).mono ?_; rintro e w1 ⟨rfl, hb1⟩; replace hb1 := hide hb1)
    all_goals go_ret
    all_goals (first | exact ⟨retB (by simp), bAl (Below.refl _ _) _⟩ | exact ⟨retB (by simp), bTr (bAl (Below.refl _ _) _) (unhide hb1)⟩)

set_option maxRecDepth 20000 in
set_option maxHeartbeats 1000000 in
theorem node8_any (x : ExprT) (w : World) (h1 : ¬ x.f0 = 1) (h2 : ¬ x.f0 = 2) (h3 : ¬ x.f0 = 3) (h4 : ¬ x.f0 = 4) (h5 : ¬ x.f0 = 5) (h6 : ¬ x.f0 = 6) (h7 : ¬ x.f0 = 7) (h10 : ¬ x.f0 = 10) (h20 : ¬ x.f0 = 20) (h21 : ¬ x.f0 = 21) :
    Calls Tryz.prog 57 #[eAgg x] w fun e w' => RetB e (8 ≤ x.f0 ∧ x.f0 ≤ 19 ∧ zEx x ∧ x.f1 = empE ∧ x.f6 = 2) ∧ Below w.heap.size w w' := by
  obtain ⟨f0, f1, f2, f3, f4, f5, f6⟩ := x
  simp only [zEx] at *
  have q := hide (isPairExpr_any f0)
  have d : Hid (¬ f0 = 10) := hide h10
  go_enter Tryz.func57, Tryz.ntmps57
  go_wp2_with (refine (unhide q _).mono ?_; rintro e w1 ⟨⟨b1, rfl, g1⟩, rfl⟩; replace g1 := hide g1; cases b1)
  all_goals go_ret
  all_goals refine ⟨retB ?_, bAl (Below.refl _ _) _⟩
  all_goals simp only [empE_iff]
  all_goals (try replace g1 := unhide g1)
  all_goals clear h1 h2 h3 h4 h5 h6 h7 h10 h20 h21 q
  all_goals (first | (simp_all; done) | (simp at g1; have d' := unhide d; clear d; simp_all; done) | (simp at g1; have d' := unhide d; clear d; constructor <;> intros <;> simp_all <;> omega) | (simp at g1; have d' := unhide d; clear d; rintro a b; exact absurd (g1 a b) d'))

theorem zEx_or {x : ExprT} (h : ¬ x.f0 = 1) : (x.f0 = 1 ∨ zEx x) ↔ zEx x := ⟨fun g => g.resolve_left h, .inr⟩
theorem goodExprNode_any (x : ExprT) (w : World) (hx : x.Ok) :
    Calls Tryz.prog 57 #[eAgg x] w fun e w' => RetB e (NodeP x) ∧ Below w.heap.size w w' := by
  have to : ∀ {p : Prop}, (p ↔ NodeP x) → Calls Tryz.prog 57 #[eAgg x] w (fun e w' => RetB e p ∧ Below w.heap.size w w') → Calls Tryz.prog 57 #[eAgg x] w fun e w' => RetB e (NodeP x) ∧ Below w.heap.size w w' := by
    intro p hp h
    refine h.mono ?_
    rintro e w' ⟨⟨b, rfl, hb⟩, h2⟩
    exact ⟨⟨b, rfl, hb.trans hp⟩, h2⟩
  unfold NodeP kidP ari txtP at to
  by_cases h1 : x.f0 = 1
  · exact to (by simp [h1]; constructor <;> simp_all) (node1_any x w hx h1)
  by_cases h2 : x.f0 = 2
  · exact to (by simp [h2]; constructor <;> (intros; simp_all)) (node2_any x w h2)
  by_cases h3 : x.f0 = 3
  · exact to (by simp [h3]; constructor <;> (intros; simp_all)) (node3_any x w h3)
  by_cases h4 : x.f0 = 4 ∨ x.f0 = 5 ∨ x.f0 = 21
  · refine to ?_ (node4_any x w hx h4)
    rcases h4 with h | h | h <;> simp [h] <;> constructor <;> (intros; simp_all)
  by_cases h20 : x.f0 = 20
  · exact to (by simp [h20]; constructor <;> (intros; simp_all)) (node20_any x w hx h20)
  by_cases h6 : x.f0 = 6 ∨ x.f0 = 7
  · refine to ?_ (node6_any x w h6)
    rcases h6 with h | h <;> simp [h] <;> constructor <;> (intros; simp_all)
  by_cases h10 : x.f0 = 10
  · exact to (by simp [h10]; constructor <;> (intros; simp_all)) (node10_any x w h10)
  simp only [not_or] at h4 h6
  refine to ?_ (node8_any x w h1 h2 h3 h4.1 h4.2.1 h6.1 h6.2 h10 h20 h4.2.2)
  simp only [h1, h2, h3, h4.1, h4.2.1, h4.2.2, h6.1, h6.2, h10, h20, or_self, if_false, false_or]
  by_cases h8 : 8 ≤ x.f0 ∧ x.f0 ≤ 19
  · simp only [if_pos h8]
    constructor
    · rintro ⟨_, _, a, b, c⟩; exact ⟨by omega, c, a, b⟩
    · rintro ⟨_, c, a, b⟩; exact ⟨h8.1, h8.2, a, b, c⟩
  · simp only [if_neg h8]
    constructor
    · rintro ⟨a, b, _⟩; exact absurd ⟨a, b⟩ h8
    · rintro ⟨a, _⟩; exact absurd rfl a

end Go.Proofs.YteaidfighimoiaaGreat.V
/- WValT, ported from seat 1a. -/
namespace Go.Proofs.YteaidfighimoiaaGreat.V
open Go.RowKit

theorem toList_nil {t : ByteArray} (h : t.toList = []) : t = ⟨#[]⟩ := by
  rw [ByteArray.toList_eq] at h
  apply ByteArray.ext
  exact Array.toList_eq_nil_iff.1 h
theorem zeroA_eq {A : AtomT} (h : zeroA A) : A = ⟨0, 0, ⟨#[]⟩, ⟨#[]⟩⟩ := by
  obtain ⟨x, n, t, y⟩ := A
  obtain ⟨h1, h2, h3, h4⟩ := h
  simp only at h1 h2 h3 h4
  rw [h1, h2, toList_nil h3, toList_nil h4]

theorem AtomT.isGood (a : AtomT) (h : a.Ok) (w : World) : Calls Tryz.prog 46 #[.agg #[.int .i64 a.x, .int .i64 a.n, .string a.t, .string a.y]] w fun e w' => e = .returned (.bool a.good) ∧ Below w.heap.size w w' :=
  sGoodAtom_any a.x a.n a.t a.y w h.n9 h.t9 h.y9
end Go.Proofs.YteaidfighimoiaaGreat.V
