/- impl.oneOrMore, goodPart, GoodDirName; spec.GoodDirName. -/
import Derived.Test.YtgfecakjdoccmaaQPart
namespace Go.Proofs.Ytgfecakjdoccmaa
open Go.RowKit

/-- A good part. -/
def partB (p : PartT) : Bool := goodName p.a && (decide (1 ≤ p.t.size) && (decide (p.t.size ≤ 60) && textL p.t))
/-- A good name. -/
def dirB (l : List PartT) : Bool := decide (l.length ≤ 8) && l.all partB

theorem oneOrMore_any (s : ByteArray) (hs : s.size ≤ maxLen) (w : World) :
    Calls Try.prog 86 #[.string s] w fun e w' => e = .returned (.bool (decide (1 ≤ s.size) && (decide (s.size ≤ 200) && textL s))) ∧ Below w.heap.size w w' := by
  by_cases h1 : s.size < 1
  · obtain rfl : s = ByteArray.empty := ByteArray.ext (Array.eq_empty_of_size_eq_zero (by show s.size = 0; omega))
    go_enter Try.func86, Try.ntmps86
    go_wp2
    go_ret
    exact ⟨rfl, Below.refl _ _⟩
  have he := isEmpty_of h1
  have hg := hide (goodText_any s hs w)
  rw [decide_eq_true (show 1 ≤ s.size by omega), Bool.true_and]
  generalize (decide (s.size ≤ 200) && textL s) = T at hg
  go_enter Try.func86, Try.ntmps86
  go_wp2_with fail
  refine (unhide hg).mono ?_
  rintro e w' ⟨rfl, hb⟩
  cases T
  all_goals
    go_wp2_with fail
    go_ret
    exact ⟨rfl, hb⟩

set_option maxHeartbeats 400000 in
theorem goodPart_any (p : PartT) (hp : p.Ok) (w : World) :
    Calls Try.prog 58 #[.agg #[.string p.a, .string p.t]] w fun e w' => e = .returned (.bool (partB p)) ∧ Below w.heap.size w w' := by
  have hT := hide (show partB p = (goodName p.a && ((decide (1 ≤ p.t.size) && (decide (p.t.size ≤ 200) && textL p.t)) && decide (p.t.size ≤ 60))) by
    unfold partB
    by_cases h : p.t.size ≤ 60
    · rw [decide_eq_true h, decide_eq_true (show p.t.size ≤ 200 by omega)]; simp
    · rw [decide_eq_false h]; simp)
  have h1 := hide (fun w => iGoodName_any p.a hp.a9 w)
  have h2 := hide (fun w => oneOrMore_any p.t hp.t9 w)
  have B := hide (bAl (Below.refl w.heap.size w) (.cells #[.string p.a, .string p.t] 55))
  have R := hide (RowIs.new w #[.string p.a, .string p.t] 55)
  have hz := hp.t9
  unfold maxLen at hz
  obtain ⟨a, t⟩ := p
  simp only at hz h1 h2 hT B R ⊢
  generalize (decide (1 ≤ t.size) && (decide (t.size ≤ 200) && textL t)) = T2 at h2 hT
  generalize goodName a = T1 at h1 hT
  generalize partB ⟨a, t⟩ = T at hT
  clear hp
  go_enter Try.func58, Try.ntmps58
  go_wp2_with fail
  refine (unhide h1 _).mono ?_
  rintro e w1 ⟨rfl, hb⟩
  replace B := hide (bTr (unhide B) hb)
  replace R := hide ((unhide R).keep hb)
  clear hb
  cases T1
  · go_wp2_with fail
    go_ret
    exact ⟨ret_bool (by rw [unhide hT]; rfl), unhide B⟩
  have c1 := (unhide R).at (o := 1) (v := .string t) rfl
  go_wp2_with fail
  refine (unhide h2 _).mono ?_
  rintro e w2 ⟨rfl, hb⟩
  replace B := hide (bTr (unhide B) hb)
  replace R := hide ((unhide R).keep hb)
  clear hb c1
  cases T2
  · go_wp2_with fail
    go_ret
    exact ⟨ret_bool (by rw [unhide hT]; rfl), unhide B⟩
  have c1 := (unhide R).at (o := 1) (v := .string t) rfl
  go_wp2_with fail
  all_goals go_ret
  all_goals (refine ⟨ret_bool ?_, unhide B⟩; rw [unhide hT]; simp; try omega)

theorem all_snoc {l : List PartT} {k : Nat} (h : k < l.length) (f : PartT → Bool) : (l.take (k + 1)).all f = ((l.take k).all f && f l[k]) := by
  rw [List.take_succ_eq_append_getElem h, List.all_append]; simp
theorem all_no {l : List PartT} {k : Nat} (h : k < l.length) {f : PartT → Bool} (hf : f l[k] = false) : l.all f = false := by
  rw [List.all_eq_false]; exact ⟨l[k], List.getElem_mem h, by simp [hf]⟩

set_option maxHeartbeats 400000 in
theorem iGoodDirName_any (a : Option Addr) (len cap : Nat) (l : List PartT) (w : World) (hl : len ≤ maxLen) (hs : SlP w a len l) (hok : ∀ q ∈ l, PartT.Ok q) :
    Calls Try.prog 33 #[.slice a len cap] w fun e w' => e = .returned (.bool (dirB l)) ∧ Below w.heap.size w w' := by
  unfold maxLen at hl
  have hd : dirB l = (decide (len ≤ 8) && l.all partB) := by unfold dirB; rw [hs.1]
  rw [hd]
  clear hd
  by_cases h8 : 8 < len
  · have d0 := decide_eq_false (p := len ≤ 8) (by omega)
    rw [d0]
    clear d0
    go_enter Try.func33, Try.ntmps33
    go_wp2_with fail
    go_ret
    exact ⟨ret_bool (by simp), Below.refl _ _⟩
  have d0 := decide_eq_true (p := len ≤ 8) (by omega)
  rw [d0, Bool.true_and]
  clear d0
  have HS := hide hs
  have HO := hide hok
  obtain ⟨T, hT⟩ : ∃ T, l.all partB = T := ⟨_, rfl⟩
  have HT := hide hT
  rw [hT]
  clear hs hok hT
  have d1 : decide (8 < (len : Int)) = false := by simp; omega
  go_enter Try.func33, Try.ntmps33
  go_wp2_with fail
  go_loopw [10] (fun i w' => ∃ (k : Nat), k ≤ len ∧ i = .int .i64 k ∧ Hid ((l.take k).all partB = true) ∧ Hid (Below w.heap.size w w')) (fun i _ => len - (intOf i).toNat)
  case atStart => exact ⟨0, Nat.zero_le _, rfl, hide rfl, hide (Below.refl _ _)⟩
  case round =>
    obtain ⟨k, hk, rfl, ha, hb⟩ := hrel
    by_cases hlt : k < len
    · obtain ⟨b, off, rfl, hrow⟩ := ((unhide HS).keep (unhide hb)).at hlt
      have hk' : k < l.length := by rw [← (unhide HS).1]; exact hlt
      have c0 := hrow.c0 k hk'
      have c1 := hrow.c1 k hk'
      have hp := hide (fun w => goodPart_any l[k] (unhide HO _ (List.getElem_mem hk')) w)
      have eT := hide (all_snoc hk' partB)
      have eN := hide (fun h => all_no (f := partB) hk' h)
      clear hrow
      generalize l[k] = A at c0 c1 hp eT eN
      have B2 := hide (bAl (unhide hb) (.cells #[.string A.a, .string A.t] 55))
      go_wp2_with fail
      refine (unhide hp _).mono ?_
      rintro e w2 ⟨rfl, hb2⟩
      replace B2 := hide (bTr (unhide B2) hb2)
      clear hb2 c0 c1 hp
      generalize partB A = G at eT eN
      cases G
      · go_wp2_with fail
        go_ret
        exact ⟨ret_bool (by rw [← unhide HT, unhide eN (by first | rfl | trivial)]), unhide B2⟩
      · go_wp2_with fail
        exact ⟨⟨k + 1, by omega, by go_num, hide (by rw [unhide eT, unhide ha]; rfl), B2⟩, by simp [intOf]; omega⟩
    · obtain rfl : k = len := by omega
      go_wp2_with fail
      go_ret
      have := unhide ha
      rw [(unhide HS).1, List.take_length, unhide HT] at this
      exact ⟨ret_bool this.symm, unhide hb⟩

set_option maxHeartbeats 400000 in
theorem sGoodDirName_any (a : Option Addr) (len cap : Nat) (l : List PartT) (w : World) (hl : len ≤ maxLen) (hs : SlP w a len l) (hok : ∀ q ∈ l, PartT.Ok q) :
    Calls Try.prog 36 #[.slice a len cap] w fun e w' => e = .returned (.bool (dirB l)) ∧ Below w.heap.size w w' := by
  unfold maxLen at hl
  have hd : dirB l = (decide (len ≤ 8) && l.all partB) := by unfold dirB; rw [hs.1]
  rw [hd]
  clear hd
  have HS := hide hs
  have HO := hide hok
  obtain ⟨T, hT⟩ : ∃ T, l.all partB = T := ⟨_, rfl⟩
  have HT := hide hT
  rw [hT]
  clear hs hok hT
  go_enter Try.func36, Try.ntmps36
  go_wp2_with fail
  go_loopw [7] (fun i w' => ∃ (k : Nat), k ≤ len ∧ i = .int .i64 k ∧ Hid ((l.take k).all partB = true) ∧ Hid (Below w.heap.size w w')) (fun i _ => len - (intOf i).toNat)
  case atStart => exact ⟨0, Nat.zero_le _, rfl, hide rfl, hide (Below.refl _ _)⟩
  case round =>
    obtain ⟨k, hk, rfl, ha, hb⟩ := hrel
    by_cases hlt : k < len
    · obtain ⟨b, off, rfl, hrow⟩ := ((unhide HS).keep (unhide hb)).at hlt
      have hk' : k < l.length := by rw [← (unhide HS).1]; exact hlt
      have c0 := hrow.c0 k hk'
      have c1 := hrow.c1 k hk'
      have ho := unhide HO _ (List.getElem_mem hk')
      have eT := hide (all_snoc hk' partB)
      have eN := hide (fun h => all_no (f := partB) hk' h)
      clear hrow
      generalize l[k] = A at c0 c1 ho eT eN
      obtain ⟨t, u⟩ := A
      have h1 := hide (fun w => sGoodName_any t ho.a9 w)
      have h2 := hide (fun w => l1Printed_any u ho.t9 w)
      have hz := ho.t9
      unfold maxLen at hz
      simp only at c0 c1 h1 h2 hz
      have eP := hide (show partB ⟨t, u⟩ = (goodName t && (decide (1 ≤ u.size) && (decide (u.size ≤ 60) && textL u))) from rfl)
      generalize partB ⟨t, u⟩ = G at eT eN eP
      generalize goodName t = G1 at h1 eP
      generalize textL u = G2 at h2 eP
      clear ho
      have B2 := hide (bAl (unhide hb) (.cells #[.string t, .string u] 55))
      by_cases d1 : u.size < 1
      · have e1 : decide ((u.size : Int) < 1) = true := by simp; omega
        have eG : Hid (G = false) := hide (by rw [unhide eP, decide_eq_false (show ¬ 1 ≤ u.size by omega)]; simp)
        cases G1
        all_goals
          go_wp2_with (go_at_call 63; refine (unhide h1 _).mono ?_; rintro e w' ⟨rfl, rfl⟩)
          go_ret
          exact ⟨ret_bool (by rw [← unhide HT, unhide eN (unhide eG)]; simp), unhide B2⟩
      by_cases d2 : 60 < u.size
      · have e1 : decide ((u.size : Int) < 1) = false := by simp; omega
        have e2 : decide (60 < (u.size : Int)) = true := by simp; omega
        have eG : Hid (G = false) := hide (by rw [unhide eP, decide_eq_false (show ¬ u.size ≤ 60 by omega)]; simp)
        cases G1
        all_goals
          go_wp2_with (go_at_call 63; refine (unhide h1 _).mono ?_; rintro e w' ⟨rfl, rfl⟩)
          go_ret
          exact ⟨ret_bool (by rw [← unhide HT, unhide eN (unhide eG)]; simp), unhide B2⟩
      have e1 : decide ((u.size : Int) < 1) = false := by simp; omega
      have e2 : decide (60 < (u.size : Int)) = false := by simp; omega
      have eG : Hid (G = (G1 && G2)) := hide (by rw [unhide eP, decide_eq_true (show 1 ≤ u.size by omega), decide_eq_true (show u.size ≤ 60 by omega)]; simp)
      cases G1 <;> cases G2
      all_goals
        go_wp2_with (first | (go_at_call 63; refine (unhide h1 _).mono ?_; rintro e w' ⟨rfl, rfl⟩) | (go_at_call 64; refine (unhide h2 _).mono ?_; rintro e w' ⟨rfl, rfl⟩))
        first
          | (go_ret; exact ⟨ret_bool (by rw [← unhide HT, unhide eN (by rw [unhide eG]; rfl)]; simp), unhide B2⟩)
          | exact ⟨⟨k + 1, by omega, by go_num, hide (by rw [unhide eT, unhide ha, unhide eG]; rfl), B2⟩, by simp [intOf]; omega⟩
    · obtain rfl : k = len := by omega
      have this := unhide ha
      rw [(unhide HS).1, List.take_length, unhide HT] at this
      have TT := hide this
      clear this
      go_wp2_with fail
      all_goals go_ret
      all_goals (refine ⟨ret_bool ?_, unhide hb⟩; rw [unhide TT]; simp; try omega)
end Go.Proofs.Ytgfecakjdoccmaa
