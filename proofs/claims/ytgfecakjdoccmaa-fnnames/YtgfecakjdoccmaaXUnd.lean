/- impl.Under at any base. -/
import Derived.Test.YtgfecakjdoccmaaXZp
namespace Go.Proofs.Ytgfecakjdoccmaa.C
open Go.RowKit

set_option maxHeartbeats 400000 in
theorem iUnder_gen (b1 : Nat) (a2 : Option Addr) (la c1 lb c2 : Nat) (l m : List PartT) (w : World) (hc1 : la ≤ c1) (hla : la ≤ maxLen) (hlb : lb ≤ maxLen) (e1 : la = l.length) (e2 : lb = m.length) (h1 : PartRow w b1 0 l) (h2 : SlP w a2 lb m)
    (ho1 : ∀ q ∈ l, PartT.Ok q) (ho2 : ∀ q ∈ m, PartT.Ok q) :
    Calls Try.prog 13 #[.slice (some ⟨b1, 0, none⟩) la c1, .slice a2 lb c2] w fun e w' => e = .returned (.bool (underB l m)) ∧ Below w.heap.size w w' := by
  have q1 := hide (fun w h => iGoodDirName_any (some ⟨b1, 0, none⟩) la c1 l w hla (slP_of e1 h) ho1)
  have q2 := hide (fun w h => iGoodDirName_any a2 lb c2 m w hlb h ho2)
  have ht : tailB l m = (decide (lb ≤ la) && decide (l.drop (la - lb) = m)) := by unfold tailB; rw [e1, e2]
  unfold underB
  rw [ht]
  clear ht
  have hy := hide (fun w (h2 : SlP w a2 lb m) => h2)
  have hx := hide (show ∀ w x, PartRow w b1 0 l → (x = (some ⟨b1, (la - lb) * 2, none⟩) ∨ lb = 0) → lb ≤ la → SlP w x lb (l.drop (la - lb)) from fun w x h1 hx h => ⟨by rw [List.length_drop, ← e1]; omega, by
      rcases hx with rfl | hx
      · exact .inr ⟨b1, _, rfl, by have := h1.drop (la - lb); rwa [Nat.zero_add] at this⟩
      · exact .inl (List.length_eq_zero_iff.1 (by rw [List.length_drop, ← e1]; omega))⟩)
  have hc := hide (fun w x c => iEqual_any x a2 lb c lb c2 (l.drop (la - lb)) m w hlb hlb)
  generalize dirB l = T1 at q1
  generalize dirB m = T2 at q2
  generalize decide (l.drop (la - lb) = m) = T3 at hc
  have H1 := hide h1
  have H2 := hide h2
  clear h1 h2 e1 e2 ho1 ho2
  unfold maxLen at hla hlb
  by_cases h : lb ≤ la
  · rw [decide_eq_true h, Bool.true_and]
    by_cases h0 : lb = 0
    · subst h0
      rw [Nat.sub_zero] at hc hx
      replace hx := hide (fun w x h1 => unhide hx w x h1 (.inr rfl) h)
      clear h
      go_enter Try.func13, Try.ntmps13
      go_wp2_with fail
      refine (unhide q1 _ (unhide H1)).mono ?_
      rintro e w1 ⟨rfl, hb⟩
      have B := hide hb
      replace H1 := hide ((unhide H1).keep hb)
      replace H2 := hide ((unhide H2).keep hb)
      clear hb q1
      cases T1
      · go_wp2_with fail
        go_ret
        exact ⟨rfl, unhide B⟩
      go_wp2_with fail
      refine (unhide q2 _ (unhide H2)).mono ?_
      rintro e w2 ⟨rfl, hb⟩
      replace B := hide (bTr (unhide B) hb)
      replace H1 := hide ((unhide H1).keep hb)
      replace H2 := hide ((unhide H2).keep hb)
      clear hb q2
      cases T2
      · go_wp2_with fail
        go_ret
        exact ⟨rfl, unhide B⟩
      go_wp2_with fail
      all_goals
        refine (unhide hc _ _ _ (unhide hx _ _ (unhide H1)) (unhide hy _ (unhide H2))).mono ?_
        rintro e w3 ⟨rfl, hb⟩
        replace B := hide (bTr (unhide B) hb)
        clear hb
        go_wp2_with fail
        go_ret
        exact ⟨by simp, unhide B⟩
    · obtain ⟨D, hD⟩ : ∃ D, la = lb + D := ⟨la - lb, by omega⟩
      subst hD
      rw [Nat.add_sub_cancel_left] at hc hx
      replace hx := hide (fun w x h1 h2 => unhide hx w x h1 h2 h)
      go_enter Try.func13, Try.ntmps13
      go_wp2_with fail
      refine (unhide q1 _ (unhide H1)).mono ?_
      rintro e w1 ⟨rfl, hb⟩
      have B := hide hb
      replace H1 := hide ((unhide H1).keep hb)
      replace H2 := hide ((unhide H2).keep hb)
      clear hb q1
      cases T1
      · go_wp2_with fail
        go_ret
        exact ⟨rfl, unhide B⟩
      go_wp2_with fail
      refine (unhide q2 _ (unhide H2)).mono ?_
      rintro e w2 ⟨rfl, hb⟩
      replace B := hide (bTr (unhide B) hb)
      replace H1 := hide ((unhide H1).keep hb)
      replace H2 := hide ((unhide H2).keep hb)
      clear hb q2
      cases T2
      · go_wp2_with fail
        go_ret
        exact ⟨rfl, unhide B⟩
      go_wp2_with fail
      refine (unhide hc _ _ _ (unhide hx _ _ (unhide H1) (by first | exact .inl rfl | simp)) (unhide hy _ (unhide H2))).mono ?_
      rintro e w3 ⟨rfl, hb⟩
      replace B := hide (bTr (unhide B) hb)
      clear hb
      go_wp2_with fail
      go_ret
      exact ⟨by simp, unhide B⟩
  · rw [decide_eq_false h, Bool.false_and, Bool.and_false, Bool.and_false]
    clear hc hx hy
    go_enter Try.func13, Try.ntmps13
    go_wp2_with fail
    refine (unhide q1 _ (unhide H1)).mono ?_
    rintro e w1 ⟨rfl, hb⟩
    have B := hide hb
    replace H2 := hide ((unhide H2).keep hb)
    clear hb q1 H1
    cases T1
    · go_wp2_with fail
      go_ret
      exact ⟨rfl, unhide B⟩
    go_wp2_with fail
    refine (unhide q2 _ (unhide H2)).mono ?_
    rintro e w2 ⟨rfl, hb⟩
    replace B := hide (bTr (unhide B) hb)
    clear hb q2 H2
    cases T2
    · go_wp2_with fail
      go_ret
      exact ⟨rfl, unhide B⟩
    go_wp2_with fail
    go_ret
    exact ⟨rfl, unhide B⟩
end Go.Proofs.Ytgfecakjdoccmaa.C
