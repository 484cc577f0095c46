/- What a good change is; laws.szDirChange; impl.goodStamp, goodPlace. -/
import Derived.Test.YtpdnimchmgbijaaQChT
namespace Go.Proofs.Ytpdnimchmgbijaa
open Go.RowKit

def stB (t o : Int) : Bool := decide (1 ≤ t) && (decide (t ≤ 1000000000) && (decide (0 ≤ o) && decide (o ≤ 99)))
def plB (p : Int) (pa pt : ByteArray) : Bool := decide (0 ≤ p) && (decide (p ≤ 1000) && (goodName pa && (decide (1 ≤ pt.size) && (decide (pt.size ≤ 50) && (textL pt && ntB pt)))))
def kindB (k p : Int) (pa pt a x : ByteArray) : Bool :=
  if k = 1 then a.toList.isEmpty && (x.toList.isEmpty && plB p pa pt)
  else if k = 2 ∨ k = 3 then (p == 0) && (pa.toList.isEmpty && (pt.toList.isEmpty && (goodName a && (decide (1 ≤ x.size) && (decide (x.size ≤ 200) && textL x)))))
  else if k = 4 then (p == 0) && (pa.toList.isEmpty && (pt.toList.isEmpty && (a.toList.isEmpty && x.toList.isEmpty)))
  else false
/-- A good change. -/
def chB (c : DcT) : Bool := stB c.t c.o && (decide (1 ≤ c.u) && (decide (c.u ≤ 1000) && kindB c.k c.p c.pa c.pt c.a c.x))

theorem szDirChange_any (t o k u p : Int) (pa pt a x : ByteArray) (l : Int) (w : World) (h0 : 0 ≤ l) (h1 : l ≤ 1048576) (h2 : pa.size ≤ maxLen) (h3 : pt.size ≤ maxLen) (h4 : a.size ≤ maxLen) (h5 : x.size ≤ maxLen) :
    Calls Try.prog 11 #[.agg #[.int .i64 t, .int .i64 o, .int .i64 k, .int .i64 u, .int .i64 p, .string pa, .string pt, .string a, .string x], .int .i64 l] w
      fun e w' => (∃ m : Int, -1 ≤ m ∧ m ≤ l ∧ e = .returned (.int .i64 m)) ∧ Below w.heap.size w w' := by
  have q := hide (fun w => szPart_any pa pt l w h0 h1 h2 h3)
  unfold maxLen at h4 h5
  clear h2 h3
  have R := hide (RowIs.new w #[.int .i64 t, .int .i64 o, .int .i64 k, .int .i64 u, .int .i64 p, .string pa, .string pt, .string a, .string x] 37)
  have B := hide (bAl (Below.refl w.heap.size w) (.cells #[.int .i64 t, .int .i64 o, .int .i64 k, .int .i64 u, .int .i64 p, .string pa, .string pt, .string a, .string x] 37))
  go_enter Try.func11, Try.ntmps11
  go_wp2_with fail
  refine (unhide q _).mono ?_
  rintro e w1 ⟨⟨m, hm1, hm2, _, rfl⟩, hb⟩
  have c7 := ((unhide R).keep hb).at (o := 7) (v := .string a) rfl
  have c8 := ((unhide R).keep hb).at (o := 8) (v := .string x) rfl
  have B1 := hide (bTr (unhide B) hb)
  clear hb R B q
  go_wp2_with fail
  all_goals go_ret
  all_goals exact ⟨⟨_, by omega, by omega, rfl⟩, unhide B1⟩

theorem goodWho_any (o : Int) (w : World) :
    Calls Try.prog 59 #[.int .i64 o] w fun e w' => e = .returned (.bool (decide (0 ≤ o) && decide (o ≤ 99))) ∧ w = w' := by
  by_cases h : 0 ≤ o
  all_goals
    have hd := hide h
    go_enter Try.func59, Try.ntmps59
    go_wp2
    go_ret
    exact ⟨ret_bool (by have := unhide hd; simp [this]; try (intros; omega)), rfl⟩

theorem goodStamp_any (t o : Int) (w : World) :
    Calls Try.prog 51 #[.agg #[.int .i64 t, .int .i64 o]] w fun e w' => e = .returned (.bool (stB t o)) ∧ Below w.heap.size w w' := by
  unfold stB
  have q := hide (fun w => goodWho_any o w)
  generalize (decide (0 ≤ o) && decide (o ≤ 99)) = T at q
  by_cases h1 : 1 ≤ t
  · have d1 := hide (decide_eq_true h1)
    by_cases h2 : t ≤ 1000000000
    all_goals
      have d2 := hide h2
      go_enter Try.func51, Try.ntmps51
      go_wp2_with (go_at_call 59; refine (unhide q _).mono ?_; rintro e w' ⟨rfl, rfl⟩)
      go_ret
      exact ⟨ret_bool (by have := unhide d2; simp [unhide d1, this]; try (intros; omega)), bAl (Below.refl _ _) _⟩
  · have d1 := hide (decide_eq_false h1)
    go_enter Try.func51, Try.ntmps51
    go_wp2_with fail
    go_ret
    exact ⟨ret_bool (by rw [unhide d1]; rfl), bAl (Below.refl _ _) _⟩

theorem plB_part (p : Int) (pa pt : ByteArray) : plB p pa pt = (decide (0 ≤ p) && (decide (p ≤ 1000) && (partB ⟨pa, pt⟩ && (decide (pt.size ≤ 50) && ntB pt)))) := by
  unfold plB partB
  by_cases h : pt.size ≤ 50
  · simp only [decide_eq_true h, decide_eq_true (show pt.size ≤ 60 by omega), Bool.true_and]
    cases decide (0 ≤ p) <;> cases decide (p ≤ 1000) <;> cases goodName pa <;> cases decide (1 ≤ pt.size) <;> cases textL pt <;> rfl
  · simp only [decide_eq_false h, Bool.false_and, Bool.and_false]

theorem goodPlace_any (p : Int) (pa pt : ByteArray) (w : World) (h1 : pa.size ≤ maxLen) (h2 : pt.size ≤ maxLen) :
    Calls Try.prog 52 #[.int .i64 p, .agg #[.string pa, .string pt]] w fun e w' => e = .returned (.bool (plB p pa pt)) ∧ Below w.heap.size w w' := by
  have H := hide (plB_part p pa pt)
  have q := hide (fun w => goodPart_any ⟨pa, pt⟩ ⟨h1, h2⟩ w)
  have qc := hide (fun w => contains_til pt w)
  have R := hide (RowIs.new w #[.string pa, .string pt] 44)
  have B := hide (bAl (Below.refl w.heap.size w) (.cells #[.string pa, .string pt] 44))
  unfold maxLen at h2
  simp only at q
  generalize partB ⟨pa, pt⟩ = T at q H
  generalize ntB pt = Y at qc H
  clear h1
  by_cases p1 : 0 ≤ p
  case neg =>
    have d1 := hide (decide_eq_false p1)
    go_enter Try.func52, Try.ntmps52
    go_wp2_with fail
    go_ret
    exact ⟨ret_bool (by rw [unhide H, unhide d1]; rfl), unhide B⟩
  have d1 := hide (decide_eq_true p1)
  by_cases p2 : p ≤ 1000
  case neg =>
    have d2 := hide (decide_eq_false p2)
    go_enter Try.func52, Try.ntmps52
    go_wp2_with fail
    go_ret
    exact ⟨ret_bool (by rw [unhide H, unhide d1, unhide d2]; rfl), unhide B⟩
  have d2 := hide (decide_eq_true p2)
  rw [unhide d1, unhide d2, Bool.true_and, Bool.true_and] at H
  clear d1 d2
  go_enter Try.func52, Try.ntmps52
  go_wp2_with fail
  refine (unhide q _).mono ?_
  rintro e w1 ⟨rfl, hb⟩
  have c1 := ((unhide R).keep hb).at (o := 1) (v := .string pt) rfl
  have B1 := hide (bTr (unhide B) hb)
  clear hb R B q
  cases T
  · go_wp2_with fail
    go_ret
    exact ⟨ret_bool (by rw [unhide H]; rfl), unhide B1⟩
  by_cases h5 : pt.size ≤ 50
  all_goals
    have d5 := hide h5
    go_wp2_with (go_at_call 61; refine (unhide qc _).mono ?_; rintro e w' ⟨rfl, rfl⟩)
    go_ret
    exact ⟨ret_bool (by have := unhide d5; rw [unhide H]; simp [this]; try (intros; omega)), unhide B1⟩
end Go.Proofs.Ytpdnimchmgbijaa
