/- impl.goodFilterNode. -/
import Derived.Test.YtlkpeolecfemnaaUPur
import Derived.Test.YtlkpeolecfemnaaWValS
namespace Go.Proofs.Ytlkpeolecfemnaa.V
open Go.RowKit Go.Maps

theorem isEmpE : empE.toList.isEmpty = true := by rw [ByteArray.toList_eq]; rfl
theorem eqEmp {a : ByteArray} (h : a.toList.isEmpty = true) : a = empE := by
  have e := List.isEmpty_iff.1 h
  rw [ByteArray.toList_eq] at e
  cases a with
  | mk d => cases d with
    | mk l => simp at e; subst e; rfl
theorem notEmpE {a : ByteArray} (h : ¬ a = empE) : a.toList.isEmpty = false := by
  cases e : a.toList.isEmpty
  · rfl
  · exact absurd (eqEmp e) h

theorem oneOrMore_any (s : ByteArray) (hs : s.size ≤ maxLen) (w : World) :
    Calls Try.prog 34 #[.string s] w fun e w' => e = .returned (.bool (decide (1 ≤ s.size) && (decide (s.size ≤ 200) && textL s))) ∧ Below w.heap.size w w' := by
  by_cases h1 : s.size < 1
  · obtain rfl : s = ByteArray.empty := ByteArray.ext (Array.eq_empty_of_size_eq_zero (by show s.size = 0; omega))
    go_enter Try.func34, Try.ntmps34
    go_wp2
    go_ret
    exact ⟨rfl, Below.refl _ _⟩
  have he := isEmpty_of h1
  have hg := hide (goodText_any s hs w)
  rw [decide_eq_true (show 1 ≤ s.size by omega), Bool.true_and]
  generalize (decide (s.size ≤ 200) && textL s) = T at hg
  go_enter Try.func34, Try.ntmps34
  go_wp2_with fail
  refine (unhide hg).mono ?_
  rintro e w' ⟨rfl, hb⟩
  cases T
  all_goals
    go_wp2_with fail
    go_ret
    exact ⟨rfl, hb⟩

theorem isPattern_any (s : ByteArray) (hs : s.size ≤ 200) (w : World) :
    Calls Try.prog 35 #[.string s] w fun e w' => RetB e ((toks s.data.toList).isSome = true) ∧ Below w.heap.size w w' := by
  have q := hide (patternParts_any s hs)
  clear hs
  go_enter Try.func35, Try.ntmps35
  go_wp2_with fail
  refine (unhide q _).mono ?_
  rintro e w1 ⟨(⟨h1, rfl⟩ | ⟨ts, v, h1, rfl, _⟩), hb1⟩
  · have H1 := hide h1
    clear h1
    go_wp2_with fail
    go_ret
    exact ⟨retB (by rw [unhide H1]; simp), hb1⟩
  · have H1 := hide h1
    clear h1
    go_wp2_with fail
    go_ret
    exact ⟨retB (by rw [unhide H1]; simp), hb1⟩

theorem empE_iff {a : ByteArray} : a = empE ↔ a.toList = [] :=
  ⟨fun h => by rw [h, ByteArray.toList_eq], fun h => eqEmp (by rw [h]; rfl)⟩

set_option maxRecDepth 20000 in
set_option maxHeartbeats 1000000 in
theorem nodeAnd_any (x : FilterNodeT) (w : World) (hk : x.f0 = 1 ∨ x.f0 = 2) :
    Calls Try.prog 26 #[eAgg x] w fun e w' => RetB e (x.f1 = empE ∧ x.f2 = empE ∧ 0 ≤ x.f3 ∧ x.f3 ≤ 20) ∧ Below w.heap.size w w' := by
  obtain ⟨f0, f1, f2, f3⟩ := x
  simp only at *
  rcases hk with rfl | rfl
  all_goals go_enter Try.func26, Try.ntmps26
  all_goals go_wp2_with fail
  all_goals go_ret
  all_goals refine ⟨retB ?_, bAl (Below.refl _ _) _⟩
  all_goals simp only [empE_iff]
  all_goals (first | (simp_all; done) | (simp_all; omega))

set_option maxRecDepth 20000 in
set_option maxHeartbeats 1000000 in
theorem nodeNot_any (x : FilterNodeT) (w : World) (hk : x.f0 = 3) :
    Calls Try.prog 26 #[eAgg x] w fun e w' => RetB e (x.f1 = empE ∧ x.f2 = empE ∧ x.f3 = 1) ∧ Below w.heap.size w w' := by
  obtain ⟨f0, f1, f2, f3⟩ := x
  simp only at *
  rcases hk with rfl
  all_goals go_enter Try.func26, Try.ntmps26
  all_goals go_wp2_with fail
  all_goals go_ret
  all_goals refine ⟨retB ?_, bAl (Below.refl _ _) _⟩
  all_goals simp only [empE_iff]
  all_goals (first | (simp_all; done) | (simp_all; omega))

set_option maxRecDepth 20000 in
set_option maxHeartbeats 1000000 in
theorem nodeHas_any (x : FilterNodeT) (w : World) (hx : x.Ok) (hk : x.f0 = 7) :
    Calls Try.prog 26 #[eAgg x] w fun e w' => RetB e (x.f2 = empE ∧ x.f3 = 0 ∧ goodName x.f1 = true) ∧ Below w.heap.size w w' := by
  obtain ⟨f0, f1, f2, f3⟩ := x
  simp only at *
  have q := hide (iGoodName_any f1 hx.o1)
  clear hx
  generalize goodName f1 = G at *
  rcases hk with rfl
  all_goals go_enter Try.func26, Try.ntmps26
  all_goals go_wp2_with (refine (unhide q _).mono ?_; rintro e w1 ⟨rfl, hb1⟩; replace hb1 := hide hb1)
  all_goals go_ret
  all_goals (first | refine ⟨retB ?_, bAl (Below.refl _ _) _⟩ | refine ⟨retB ?_, bTr (bAl (Below.refl _ _) _) (unhide hb1)⟩)
  all_goals simp only [empE_iff]
  all_goals simp_all

set_option maxRecDepth 20000 in
set_option maxHeartbeats 1000000 in
theorem nodeTxt_any (x : FilterNodeT) (w : World) (hx : x.Ok) (hk : x.f0 = 4 ∨ x.f0 = 5 ∨ x.f0 = 6) :
    Calls Try.prog 26 #[eAgg x] w fun e w' => RetB e (x.f3 = 0 ∧ goodName x.f1 = true ∧ (decide (1 ≤ x.f2.size) && (decide (x.f2.size ≤ 200) && textL x.f2)) = true) ∧ Below w.heap.size w w' := by
  obtain ⟨f0, f1, f2, f3⟩ := x
  simp only at *
  have q := hide (iGoodName_any f1 hx.o1)
  have q2 := hide (oneOrMore_any f2 hx.o2)
  clear hx
  have R0 := hide (fun k => RowIs.new w #[.int .i64 k, .string f1, .string f2, .int .i64 0] 32)
  generalize goodName f1 = G at *
  by_cases g3 : f3 = 0
  · subst g3
    generalize hX : (decide (1 ≤ f2.size) && (decide (f2.size ≤ 200) && textL f2)) = X at *
    clear hX
    rcases hk with rfl | rfl | rfl
    all_goals (cases G <;> cases X)
    all_goals go_enter Try.func26, Try.ntmps26
    all_goals go_wp2_with (first | (go_at_call 33; refine (unhide q _).mono ?_; rintro e w1 ⟨rfl, hb1⟩; have c0 := ((unhide R0 _).keep hb1).at (o := 0) rfl; have c2 := ((unhide R0 _).keep hb1).at (o := 2) (v := .string f2) rfl; replace hb1 := hide hb1) | (go_at_call 34; refine (unhide q2 _).mono ?_; rintro e w2 ⟨rfl, hb2⟩; have c0 := (((unhide R0 _).keep (unhide hb1)).keep hb2).at (o := 0) rfl; have c2 := (((unhide R0 _).keep (unhide hb1)).keep hb2).at (o := 2) (v := .string f2) rfl; replace hb2 := hide hb2))
    all_goals go_ret
    all_goals (first | refine ⟨retB ?_, bAl (Below.refl _ _) _⟩ | refine ⟨retB ?_, bTr (bAl (Below.refl _ _) _) (unhide hb1)⟩ | refine ⟨retB ?_, bTr (bTr (bAl (Below.refl _ _) _) (unhide hb1)) (unhide hb2)⟩)
    all_goals simp_all
  · have d3 : (f3 == 0) = false := by simpa using g3
    clear q q2 R0
    rcases hk with rfl | rfl | rfl
    all_goals go_enter Try.func26, Try.ntmps26
    all_goals go_wp2_with fail
    all_goals go_ret
    all_goals exact ⟨retB (by simp [g3]), bAl (Below.refl _ _) _⟩

set_option maxRecDepth 20000 in
set_option maxHeartbeats 1000000 in
theorem nodeLike_any (x : FilterNodeT) (w : World) (hx : x.Ok) (hk : x.f0 = 8) :
    Calls Try.prog 26 #[eAgg x] w fun e w' => RetB e (x.f3 = 0 ∧ goodName x.f1 = true ∧ (decide (1 ≤ x.f2.size) && (decide (x.f2.size ≤ 200) && textL x.f2)) = true ∧ (toks x.f2.data.toList).isSome = true) ∧ Below w.heap.size w w' := by
  obtain ⟨f0, f1, f2, f3⟩ := x
  simp only at *
  have q := hide (iGoodName_any f1 hx.o1)
  have q2 := hide (oneOrMore_any f2 hx.o2)
  have q3 := hide (isPattern_any f2)
  clear hx
  have R0 := hide (fun k => RowIs.new w #[.int .i64 k, .string f1, .string f2, .int .i64 0] 32)
  generalize goodName f1 = G at *
  by_cases g3 : f3 = 0
  · subst g3
    generalize hX : (decide (1 ≤ f2.size) && (decide (f2.size ≤ 200) && textL f2)) = X at *
    have S2 : X = true → f2.size ≤ 200 := fun h => by rw [h] at hX; simp at hX; exact hX.2.1
    clear hX
    generalize (toks f2.data.toList).isSome = Y at *
    rcases hk with rfl
    all_goals (cases G <;> cases X)
    all_goals (try replace q3 := hide (unhide q3 (S2 rfl)))
    all_goals clear S2
    all_goals go_enter Try.func26, Try.ntmps26
    all_goals go_wp2_with (first | (go_at_call 33; refine (unhide q _).mono ?_; rintro e w1 ⟨rfl, hb1⟩; have c0 := ((unhide R0 _).keep hb1).at (o := 0) rfl; have c2 := ((unhide R0 _).keep hb1).at (o := 2) (v := .string f2) rfl; replace hb1 := hide hb1) | (go_at_call 34; refine (unhide q2 _).mono ?_; rintro e w2 ⟨rfl, hb2⟩; have c0 := (((unhide R0 _).keep (unhide hb1)).keep hb2).at (o := 0) rfl; have c2 := (((unhide R0 _).keep (unhide hb1)).keep hb2).at (o := 2) (v := .string f2) rfl; replace hb2 := hide hb2) | (go_at_call 35; refine (unhide q3 _).mono ?_; rintro e w3 ⟨⟨b3, rfl, h3⟩, hb3⟩; replace h3 := hide h3; replace hb3 := hide hb3))
    all_goals go_ret
    all_goals (first | refine ⟨retB ?_, bAl (Below.refl _ _) _⟩ | refine ⟨retB ?_, bTr (bAl (Below.refl _ _) _) (unhide hb1)⟩ | refine ⟨retB ?_, bTr (bTr (bAl (Below.refl _ _) _) (unhide hb1)) (unhide hb2)⟩ | refine ⟨retB ?_, bTr (bTr (bTr (bAl (Below.refl _ _) _) (unhide hb1)) (unhide hb2)) (unhide hb3)⟩)
    all_goals (try replace h3 := unhide h3)
    all_goals simp_all
  · have d3 : (f3 == 0) = false := by simpa using g3
    clear q q2 R0 q3
    rcases hk with rfl
    all_goals go_enter Try.func26, Try.ntmps26
    all_goals go_wp2_with fail
    all_goals go_ret
    all_goals exact ⟨retB (by simp [g3]), bAl (Below.refl _ _) _⟩

set_option maxRecDepth 20000 in
set_option maxHeartbeats 1000000 in
theorem nodeElse_any (x : FilterNodeT) (w : World) (h1 : ¬ x.f0 = 1) (h2 : ¬ x.f0 = 2) (h3 : ¬ x.f0 = 3) (h4 : ¬ x.f0 = 4) (h5 : ¬ x.f0 = 5) (h6 : ¬ x.f0 = 6) (h7 : ¬ x.f0 = 7) (h8 : ¬ x.f0 = 8) :
    Calls Try.prog 26 #[eAgg x] w fun e w' => RetB e (False) ∧ Below w.heap.size w w' := by
  obtain ⟨f0, f1, f2, f3⟩ := x
  simp only at *
  go_enter Try.func26, Try.ntmps26
  go_wp2_with fail
  go_ret
  exact ⟨retB (by simp), bAl (Below.refl _ _) _⟩

theorem goodFilterNode_any (x : FilterNodeT) (w : World) (hx : x.Ok) :
    Calls Try.prog 26 #[eAgg x] w fun e w' => RetB e (NodeP x) ∧ Below w.heap.size w w' := by
  have to : ∀ {p : Prop}, (p ↔ NodeP x) → Calls Try.prog 26 #[eAgg x] w (fun e w' => RetB e p ∧ Below w.heap.size w w') → Calls Try.prog 26 #[eAgg x] w fun e w' => RetB e (NodeP x) ∧ Below w.heap.size w w' := by
    intro p hp h
    refine h.mono ?_
    rintro e w' ⟨⟨b, rfl, hb⟩, h2⟩
    exact ⟨⟨b, rfl, hb.trans hp⟩, h2⟩
  unfold NodeP at to
  by_cases h1 : x.f0 = 1 ∨ x.f0 = 2
  · exact to (by rw [if_pos h1]) (nodeAnd_any x w h1)
  by_cases h3 : x.f0 = 3
  · exact to (by rw [if_neg h1, if_pos h3]) (nodeNot_any x w h3)
  by_cases h7 : x.f0 = 7
  · exact to (by rw [if_neg h1, if_neg h3, if_pos h7]; exact ⟨fun ⟨a, b, c⟩ => ⟨c, a, b⟩, fun ⟨a, b, c⟩ => ⟨b, c, a⟩⟩) (nodeHas_any x w hx h7)
  by_cases h8 : x.f0 = 8
  · refine to ?_ (nodeLike_any x w hx h8)
    rw [if_neg h1, if_neg h3, if_neg h7, if_pos (.inr (.inr (.inr h8)))]
    simp only [Bool.and_eq_true, decide_eq_true_eq]
    exact ⟨fun ⟨a, b, c, d⟩ => ⟨b, c, a, fun _ => d⟩, fun ⟨b, c, a, d⟩ => ⟨a, b, c, d h8⟩⟩
  by_cases h4 : x.f0 = 4 ∨ x.f0 = 5 ∨ x.f0 = 6
  · refine to ?_ (nodeTxt_any x w hx h4)
    rw [if_neg h1, if_neg h3, if_neg h7, if_pos (by omega)]
    simp only [Bool.and_eq_true, decide_eq_true_eq]
    exact ⟨fun ⟨a, b, c⟩ => ⟨b, c, a, fun h => absurd h h8⟩, fun ⟨b, c, a, _⟩ => ⟨a, b, c⟩⟩
  simp only [not_or] at h1 h4
  refine to ?_ (nodeElse_any x w h1.1 h1.2 h3 h4.1 h4.2.1 h4.2.2 h7 h8)
  rw [if_neg (by omega), if_neg h3, if_neg h7, if_neg (by omega)]
end Go.Proofs.Ytlkpeolecfemnaa.V
