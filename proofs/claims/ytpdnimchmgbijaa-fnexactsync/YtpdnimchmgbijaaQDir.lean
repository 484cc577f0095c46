/- impl.oneOrMore, goodPart, GoodDirName; spec.GoodDirName. -/
import Derived.Test.YtpdnimchmgbijaaQPart
namespace Go.Proofs.Ytpdnimchmgbijaa
open Go.RowKit

/-- A good part. -/
def partB (p : PartT) : Bool := goodName p.a && (decide (1 ≤ p.t.size) && (decide (p.t.size ≤ 60) && textL p.t))
/-- A good name. -/
def dirB (l : List PartT) : Bool := decide (l.length ≤ 8) && l.all partB

theorem oneOrMore_any (s : ByteArray) (hs : s.size ≤ maxLen) (w : World) :
    Calls Try.prog 54 #[.string s] w fun e w' => e = .returned (.bool (decide (1 ≤ s.size) && (decide (s.size ≤ 200) && textL s))) ∧ Below w.heap.size w w' := by
  by_cases h1 : s.size < 1
  · obtain rfl : s = ByteArray.empty := ByteArray.ext (Array.eq_empty_of_size_eq_zero (by show s.size = 0; omega))
    go_enter Try.func54, Try.ntmps54
    go_wp2
    go_ret
    exact ⟨rfl, Below.refl _ _⟩
  have he := isEmpty_of h1
  have hg := hide (goodText_any s hs w)
  rw [decide_eq_true (show 1 ≤ s.size by omega), Bool.true_and]
  generalize (decide (s.size ≤ 200) && textL s) = T at hg
  go_enter Try.func54, Try.ntmps54
  go_wp2_with fail
  refine (unhide hg).mono ?_
  rintro e w' ⟨rfl, hb⟩
  cases T
  all_goals
    go_wp2_with fail
    go_ret
    exact ⟨rfl, hb⟩

set_option maxHeartbeats 400000 in
theorem goodPart_any (p : PartT) (hp : p.Ok) (w : World) :
    Calls Try.prog 60 #[.agg #[.string p.a, .string p.t]] w fun e w' => e = .returned (.bool (partB p)) ∧ Below w.heap.size w w' := by
  have hT := hide (show partB p = (goodName p.a && ((decide (1 ≤ p.t.size) && (decide (p.t.size ≤ 200) && textL p.t)) && decide (p.t.size ≤ 60))) by
    unfold partB
    by_cases h : p.t.size ≤ 60
    · rw [decide_eq_true h, decide_eq_true (show p.t.size ≤ 200 by omega)]; simp
    · rw [decide_eq_false h]; simp)
  have h1 := hide (fun w => iGoodName_any p.a hp.a9 w)
  have h2 := hide (fun w => oneOrMore_any p.t hp.t9 w)
  have B := hide (bAl (Below.refl w.heap.size w) (.cells #[.string p.a, .string p.t] 44))
  have R := hide (RowIs.new w #[.string p.a, .string p.t] 44)
  have hz := hp.t9
  unfold maxLen at hz
  obtain ⟨a, t⟩ := p
  simp only at hz h1 h2 hT B R ⊢
  generalize (decide (1 ≤ t.size) && (decide (t.size ≤ 200) && textL t)) = T2 at h2 hT
  generalize goodName a = T1 at h1 hT
  generalize partB ⟨a, t⟩ = T at hT
  clear hp
  go_enter Try.func60, Try.ntmps60
  go_wp2_with fail
  refine (unhide h1 _).mono ?_
  rintro e w1 ⟨rfl, hb⟩
  replace B := hide (bTr (unhide B) hb)
  replace R := hide ((unhide R).keep hb)
  clear hb
  cases T1
  · go_wp2_with fail
    go_ret
    exact ⟨ret_bool (by rw [unhide hT]; rfl), unhide B⟩
  have c1 := (unhide R).at (o := 1) (v := .string t) rfl
  go_wp2_with fail
  refine (unhide h2 _).mono ?_
  rintro e w2 ⟨rfl, hb⟩
  replace B := hide (bTr (unhide B) hb)
  replace R := hide ((unhide R).keep hb)
  clear hb c1
  cases T2
  · go_wp2_with fail
    go_ret
    exact ⟨ret_bool (by rw [unhide hT]; rfl), unhide B⟩
  have c1 := (unhide R).at (o := 1) (v := .string t) rfl
  go_wp2_with fail
  all_goals go_ret
  all_goals (refine ⟨ret_bool ?_, unhide B⟩; rw [unhide hT]; simp; try omega)

theorem all_snoc {l : List PartT} {k : Nat} (h : k < l.length) (f : PartT → Bool) : (l.take (k + 1)).all f = ((l.take k).all f && f l[k]) := by
  rw [List.take_succ_eq_append_getElem h, List.all_append]; simp
theorem all_no {l : List PartT} {k : Nat} (h : k < l.length) {f : PartT → Bool} (hf : f l[k] = false) : l.all f = false := by
  rw [List.all_eq_false]; exact ⟨l[k], List.getElem_mem h, by simp [hf]⟩

end Go.Proofs.Ytpdnimchmgbijaa
