/- spec.l3Under, spec.Under, impl.Under. -/
import Derived.Test.YtgfecakjdoccmaaQUnd
namespace Go.Proofs.Ytgfecakjdoccmaa
open Go.RowKit

theorem PartRow.drop {w : World} {b off : Nat} {l : List PartT} (h : PartRow w b off l) (d : Nat) : PartRow w b (off + d * 2) (l.drop d) :=
  ⟨h.z, fun i hi => by
      have := h.c0 (d + i) (by simp at hi; omega)
      rw [List.getElem_drop, show off + d * 2 + i * 2 = off + (d + i) * 2 by omega]; exact this,
    fun i hi => by
      have := h.c1 (d + i) (by simp at hi; omega)
      rw [List.getElem_drop, show off + d * 2 + i * 2 + 1 = off + (d + i) * 2 + 1 by omega]; exact this⟩

/-- m is a tail of l. -/
def tailB (l m : List PartT) : Bool := decide (m.length ≤ l.length) && decide (l.drop (l.length - m.length) = m)

def underB (l m : List PartT) : Bool := dirB l && (dirB m && tailB l m)
theorem slP_of {w : World} {b len : Nat} {l : List PartT} (e : len = l.length) (h : PartRow w b 0 l) : SlP w (some ⟨b, 0, none⟩) len l := ⟨e, .inr ⟨b, 0, rfl, h⟩⟩

set_option maxHeartbeats 400000 in
theorem iUnder_any (b1 b2 la lb : Nat) (l m : List PartT) (w : World) (hla : la ≤ maxLen) (hlb : lb ≤ maxLen) (e1 : la = l.length) (e2 : lb = m.length) (h1 : PartRow w b1 0 l) (h2 : PartRow w b2 0 m)
    (ho1 : ∀ q ∈ l, PartT.Ok q) (ho2 : ∀ q ∈ m, PartT.Ok q) :
    Calls Try.prog 13 #[.slice (some ⟨b1, 0, none⟩) la la, .slice (some ⟨b2, 0, none⟩) lb lb] w fun e w' => e = .returned (.bool (underB l m)) ∧ Below w.heap.size w w' := by
  have q1 := hide (fun w h => iGoodDirName_any (some ⟨b1, 0, none⟩) la la l w hla (slP_of e1 h) ho1)
  have q2 := hide (fun w h => iGoodDirName_any (some ⟨b2, 0, none⟩) lb lb m w hlb (slP_of e2 h) ho2)
  have ht : tailB l m = (decide (lb ≤ la) && decide (l.drop (la - lb) = m)) := by unfold tailB; rw [e1, e2]
  unfold underB
  rw [ht]
  clear ht
  have hy := hide (fun w (h2 : PartRow w b2 0 m) => slP_of e2 h2)
  have hx := hide (show ∀ w x, PartRow w b1 0 l → (x = (some ⟨b1, (la - lb) * 2, none⟩) ∨ lb = 0) → lb ≤ la → SlP w x lb (l.drop (la - lb)) from fun w x h1 hx h => ⟨by rw [List.length_drop, ← e1]; omega, by
      rcases hx with rfl | hx
      · exact .inr ⟨b1, _, rfl, by have := h1.drop (la - lb); rwa [Nat.zero_add] at this⟩
      · exact .inl (List.length_eq_zero_iff.1 (by rw [List.length_drop, ← e1]; omega))⟩)
  have hc := hide (fun w x c => iEqual_any x (some ⟨b2, 0, none⟩) lb c lb lb (l.drop (la - lb)) m w hlb hlb)
  generalize dirB l = T1 at q1
  generalize dirB m = T2 at q2
  generalize decide (l.drop (la - lb) = m) = T3 at hc
  have H1 := hide h1
  have H2 := hide h2
  clear h1 h2 e1 e2 ho1 ho2
  unfold maxLen at hla hlb
  by_cases h : lb ≤ la
  · rw [decide_eq_true h, Bool.true_and]
    by_cases h0 : lb = 0
    · subst h0
      rw [Nat.sub_zero] at hc hx
      replace hx := hide (fun w x h1 => unhide hx w x h1 (.inr rfl) h)
      clear h
      go_enter Try.func13, Try.ntmps13
      go_wp2_with fail
      refine (unhide q1 _ (unhide H1)).mono ?_
      rintro e w1 ⟨rfl, hb⟩
      have B := hide hb
      replace H1 := hide ((unhide H1).keep hb)
      replace H2 := hide ((unhide H2).keep hb)
      clear hb q1
      cases T1
      · go_wp2_with fail
        go_ret
        exact ⟨rfl, unhide B⟩
      go_wp2_with fail
      refine (unhide q2 _ (unhide H2)).mono ?_
      rintro e w2 ⟨rfl, hb⟩
      replace B := hide (bTr (unhide B) hb)
      replace H1 := hide ((unhide H1).keep hb)
      replace H2 := hide ((unhide H2).keep hb)
      clear hb q2
      cases T2
      · go_wp2_with fail
        go_ret
        exact ⟨rfl, unhide B⟩
      go_wp2_with fail
      refine (unhide hc _ _ _ (unhide hx _ _ (unhide H1)) (unhide hy _ (unhide H2))).mono ?_
      rintro e w3 ⟨rfl, hb⟩
      replace B := hide (bTr (unhide B) hb)
      clear hb
      go_wp2_with fail
      go_ret
      exact ⟨by simp, unhide B⟩
    · obtain ⟨D, hD⟩ : ∃ D, la = lb + D := ⟨la - lb, by omega⟩
      subst hD
      rw [Nat.add_sub_cancel_left] at hc hx
      replace hx := hide (fun w x h1 h2 => unhide hx w x h1 h2 h)
      go_enter Try.func13, Try.ntmps13
      go_wp2_with fail
      refine (unhide q1 _ (unhide H1)).mono ?_
      rintro e w1 ⟨rfl, hb⟩
      have B := hide hb
      replace H1 := hide ((unhide H1).keep hb)
      replace H2 := hide ((unhide H2).keep hb)
      clear hb q1
      cases T1
      · go_wp2_with fail
        go_ret
        exact ⟨rfl, unhide B⟩
      go_wp2_with fail
      refine (unhide q2 _ (unhide H2)).mono ?_
      rintro e w2 ⟨rfl, hb⟩
      replace B := hide (bTr (unhide B) hb)
      replace H1 := hide ((unhide H1).keep hb)
      replace H2 := hide ((unhide H2).keep hb)
      clear hb q2
      cases T2
      · go_wp2_with fail
        go_ret
        exact ⟨rfl, unhide B⟩
      go_wp2_with fail
      refine (unhide hc _ _ _ (unhide hx _ _ (unhide H1) (by first | exact .inl rfl | simp)) (unhide hy _ (unhide H2))).mono ?_
      rintro e w3 ⟨rfl, hb⟩
      replace B := hide (bTr (unhide B) hb)
      clear hb
      go_wp2_with fail
      go_ret
      exact ⟨by simp, unhide B⟩
  · rw [decide_eq_false h, Bool.false_and, Bool.and_false, Bool.and_false]
    clear hc hx hy
    go_enter Try.func13, Try.ntmps13
    go_wp2_with fail
    refine (unhide q1 _ (unhide H1)).mono ?_
    rintro e w1 ⟨rfl, hb⟩
    have B := hide hb
    replace H2 := hide ((unhide H2).keep hb)
    clear hb q1 H1
    cases T1
    · go_wp2_with fail
      go_ret
      exact ⟨rfl, unhide B⟩
    go_wp2_with fail
    refine (unhide q2 _ (unhide H2)).mono ?_
    rintro e w2 ⟨rfl, hb⟩
    replace B := hide (bTr (unhide B) hb)
    clear hb q2 H2
    cases T2
    · go_wp2_with fail
      go_ret
      exact ⟨rfl, unhide B⟩
    go_wp2_with fail
    go_ret
    exact ⟨rfl, unhide B⟩
end Go.Proofs.Ytgfecakjdoccmaa
