/- impl.timeVector's see and newest. -/
import Derived.Test.YtmkjpdfpnjcpjaaQMap
namespace Go.Proofs.Ytmkjpdfpnjcpjaa
open Go.RowKit Go.Maps

theorem okI_iff (a : Int) : okI a ↔ (-9223372036854775808 ≤ a ∧ a ≤ 9223372036854775807) := by
  unfold okI
  simp [Lit.wf, IntKind.min, IntKind.max, IntKind.signed, IntKind.bits]

theorem max_if (a b : Int) : (if a < b then b else a) = max a b := by rw [Int.max_def]; split <;> split <;> omega
theorem okI_if {a b : Int} (ha : okI a) (hb : okI b) : okI (if a < b then b else a) := by split <;> assumption

set_option maxRecDepth 100000 in
set_option maxHeartbeats 400000 in
theorem see_any (b n : Nat) (tv : Int → Int) (t s : Int) (w : World) (hv : VecM w b n tv) (hn : n < maxLen) (ht : okI t) (hs : okI s) (ht0 : 0 < t) :
    Calls Try.prog 55 #[.map (some b), .agg #[.int .i64 t, .int .i64 s]] w fun e w' => e = .returned (.tuple #[]) ∧ VecM w' b (n + 1) (upd tv s t) ∧ w.grownBy w' (some b) := by
  have HV := hide (hv.kept (World.grownBy_alloc w (.cells #[.int .i64 t, .int .i64 s] 41) none) (by simp))
  clear hv
  go_enter Try.func55, Try.ntmps55
  go_wp2_with (first
    | (at_lookup; refine wpList_look_vec _ rfl _ _ rfl b n tv rfl (unhide HV) s rfl hs ?_; intro hwc)
    | (at_mapUpdate; refine wpList_put_vec _ rfl _ _ _ rfl b n tv rfl (unhide HV) hn s t _ rfl rfl (max_if _ _) hs (okI_if hwc ht) ht0 ?_; intro w1 h1 hg1))
  all_goals go_end0
  all_goals exact ⟨rfl, h1, (World.grownBy_alloc w _ (some b)).trans hg1⟩

set_option maxHeartbeats 400000 in
theorem newest_any (b n : Nat) (tv : Int → Int) (w : World) (hv : VecM w b n tv) :
    Calls Try.prog 45 #[.map (some b)] w fun e w' => ∃ q : Int, e = .returned (.int .i64 q) ∧ 0 ≤ q ∧ okI q ∧ (q = 0 ∨ ∃ a, okI a ∧ tv a = q) ∧ (∀ a, okI a → tv a ≤ q) ∧ Below w.heap.size w w' := by
  obtain ⟨D, hown, hD, _⟩ := hv
  have HD := hide hD
  clear hD
  go_enter Try.func45, Try.ntmps45
  go_wp2_with (first
    | (at_range; refine wpList_range_own _ rfl _ 58 rfl 3 3 lawI Try.underlying58 _ b n _ rfl hown ?_; intro w0 hrg0 hg0 hs0)
    | go_in)
  go_frame
  go_loopw [3] (fun i wr => ∃ (left : Lit → Bool) (cnt : Nat) (q : Int), i = .int .i64 q ∧ wr.ranges Try.prog 3 (plainElem Try.prog 3) b w.heap.size n D left cnt ∧ Hid (0 ≤ q) ∧ Hid (okI q) ∧ Hid (q = 0 ∨ ∃ a, okI a ∧ tv a = q) ∧ Hid (∀ a, okI a → left (.int .i64 a) = false → Maps.has D (.int .i64 a) = true → tv a ≤ q) ∧ Hid (Below w.heap.size w wr))
    (fun _ wr => wr.rangeLeft b w.heap.size)
  case atStart => exact ⟨_, _, 0, rfl, hrg0, hide (Int.le_refl _), hide ((okI_iff 0).2 (by omega)), hide (.inl rfl), hide (fun a _ h1 h2 => by rw [h1] at h2; cases h2), hide ((Below.refl _ _).grown hg0 (Nat.le_refl _) (fun _ h => by cases h))⟩
  case round =>
    obtain ⟨left, cnt, q, rfl, hrg, hq0, hqo, hqe, hql, hB⟩ := hrel
    go_wp2_with (first
      | (at_next; refine wpList_next_ranges_ii _ rfl _ rfl 3 3 .i64 .i64 lawI Try.underlying3 Try.underlying3 b w.heap.size n _ _ _ rfl hrg ?_ ?_)
      | go_in)
    · intro _ hl0
      have all : Hid (∀ a, okI a → tv a ≤ q) := hide (fun a ha => by
        cases hh : Maps.has D (.int .i64 a)
        · have h1 := unhide HD a ha
          rw [Maps.atKey_of_not_has hh] at h1
          simp at h1
          rw [← h1]; exact unhide hq0
        · exact unhide hql a ha (hl0 _) hh)
      clear hl0
      go_wp2
      go_ret
      exact ⟨q, rfl, unhide hq0, unhide hqo, unhide hqe, unhide all, unhide hB⟩
    · intro x c w1 cnt1 hwx hwc hlx hat hrg1 hlt hg1 hs1 hen
      have hc : tv x = c := by
        have h1 := unhide HD x hwx
        rw [hat] at h1
        simpa using h1.symm
      have HC := hide hc
      have HX := hide (show okI x from hwx)
      have HCo := hide (show okI c from hwc)
      clear hwx hwc hlx hat hc
      have m0 : Hid (0 ≤ if q < c then c else q) := hide (by have := unhide hq0; split <;> omega)
      have mo : Hid (okI (if q < c then c else q)) := hide (okI_if (unhide hqo) (unhide HCo))
      have me : Hid ((if q < c then c else q) = 0 ∨ ∃ a, okI a ∧ tv a = if q < c then c else q) := hide (by
        split
        · exact .inr ⟨x, unhide HX, unhide HC⟩
        · exact unhide hqe)
      have ml : Hid (∀ a, okI a → (left (.int .i64 a) && !(Lit.int .i64 a).sameKey (.int .i64 x)) = false → Maps.has D (.int .i64 a) = true → tv a ≤ if q < c then c else q) := hide (by
        intro a ha h1 h2
        cases hl : left (.int .i64 a)
        · have := unhide hql a ha hl h2
          split <;> omega
        · by_cases e : a = x
          · subst e
            rw [unhide HC]
            split <;> omega
          · rw [hl, Maps.sameKey_ne (by simpa using e)] at h1
            cases h1)
      have B1 := hide ((unhide hB).grown hg1 (unhide hB).size (fun k h => by cases h; exact Nat.le_refl _))
      clear HC HX HCo hql hqe hqo hq0 HD
      go_wp2
      exact ⟨⟨_, cnt1, _, rfl, hrg1, m0, mo, me, ml, B1⟩, by rw [hrg1.left_eq, hrg.left_eq]; exact hlt⟩
end Go.Proofs.Ytmkjpdfpnjcpjaa
