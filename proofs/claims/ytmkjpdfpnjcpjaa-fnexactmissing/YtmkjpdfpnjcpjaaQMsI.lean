/- impl.Missing. -/
import Derived.Test.YtmkjpdfpnjcpjaaQMsS
namespace Go.Proofs.Ytmkjpdfpnjcpjaa
open Go.RowKit

theorem vecV_le (t o : Int) : ∀ (vec : List (Int × Int)) (tv : Int → Int), t ≤ vecV tv vec o ↔ (t ≤ tv o ∨ ∃ v ∈ vec, v.2 = o ∧ t ≤ v.1)
  | [], tv => by simp [vecV]
  | x :: vec, tv => by
    show t ≤ vecV (upd tv x.2 x.1) vec o ↔ _
    rw [vecV_le t o vec]
    by_cases e : o = x.2
    · subst e
      rw [upd_same]
      constructor
      · rintro (h | ⟨v, hv, h1, h2⟩)
        · by_cases h3 : t ≤ tv x.2
          · exact .inl h3
          · exact .inr ⟨x, by simp, rfl, by omega⟩
        · exact .inr ⟨v, by simp [hv], h1, h2⟩
      · rintro (h | ⟨v, hv, h1, h2⟩)
        · exact .inl (by omega)
        · rcases List.mem_cons.1 hv with rfl | hv
          · exact .inl (by omega)
          · exact .inr ⟨v, hv, h1, h2⟩
    · rw [upd_other tv e]
      constructor
      · rintro (h | ⟨v, hv, h1, h2⟩)
        · exact .inl h
        · exact .inr ⟨v, by simp [hv], h1, h2⟩
      · rintro (h | ⟨v, hv, h1, h2⟩)
        · exact .inl h
        · rcases List.mem_cons.1 hv with rfl | hv
          · exact absurd h1.symm e
          · exact .inr ⟨v, hv, h1, h2⟩
theorem filter_msg {l : List DcT} (hg : l.all chB = true) (vec : List (Int × Int)) : (l.filter fun c => decide (vecV (fun _ => 0) vec c.o < c.t)) = msg l vec := by
  unfold msg
  refine List.filter_congr fun c hc => ?_
  obtain ⟨i, hi, rfl⟩ := List.mem_iff_getElem.1 hc
  have hr := ch_range hg i hi
  have h := vecV_le l[i].t l[i].o vec (fun _ => 0)
  cases hk : knB vec l[i]
  · have : ¬ l[i].t ≤ vecV (fun _ => 0) vec l[i].o := fun hh => by
      rcases h.1 hh with h1 | ⟨v, hv, h1, h2⟩
      · omega
      · unfold knB at hk
        rw [List.any_eq_false] at hk
        exact hk v hv (by simp [h1, h2])
    simp; omega
  · have : l[i].t ≤ vecV (fun _ => 0) vec l[i].o := h.2 (.inr (by
      unfold knB at hk
      obtain ⟨v, hv, h1⟩ := List.any_eq_true.1 hk
      simp at h1
      exact ⟨v, hv, h1.1, h1.2⟩))
    simp; omega

set_option maxRecDepth 100000 in
set_option maxHeartbeats 2000000 in
theorem iMissing_any (a : Option Addr) (len cap : Nat) (l : List DcT) (a2 : Option Addr) (len2 cap2 : Nat) (vec : List (Int × Int)) (w : World) (hl : len ≤ maxLen) (hs : SlC w a len l) (hok : ∀ q ∈ l, DcT.Ok q) (hl2 : len2 ≤ maxLen) (hs2 : SlSt w a2 len2 vec) (hok2 : ∀ q ∈ vec, StOk q) :
    Calls Try.prog 22 #[.slice a len cap, .slice a2 len2 cap2] w fun e w' => (∃ v r, e = .returned v ∧ MP l vec r ∧ w'.ownsRow w.heap.size 54 9 v r.length (dcsV r)) ∧ Below w.heap.size w w' := by
  have q1 := hide (iGoodLog_any a len cap l w hl hs hok)
  have q2 := hide (fun w hs => goodVector_any a2 len2 cap2 vec w hl2 hs)
  have HS := hide hs
  have HS2 := hide hs2
  have HO2 := hide hok2
  have hll := hide hs.1
  have hll2 := hide hs2.1
  clear hs hok hl hs2 hok2 hl2
  go_enter Try.func22, Try.ntmps22
  go_wp2_with fail
  refine (unhide q1).mono ?_
  rintro e w1 ⟨⟨t1, rfl, ht1⟩, hb1⟩
  have B1 := hide hb1
  replace HS := hide ((unhide HS).keep hb1)
  replace HS2 := hide ((unhide HS2).keep hb1)
  have HT1 := hide ht1
  clear hb1 q1 ht1
  cases t1
  · have no : Hid (MP l vec []) := hide (.inl ⟨fun h => (by have := (unhide HT1).2 h.1; cases this), rfl⟩)
    go_wp2_with fail
    go_ret
    exact ⟨⟨_, [], rfl, unhide no, World.ownsRow_nil _ _ _ _⟩, unhide B1⟩
  have LG := hide ((unhide HT1).1 rfl)
  clear HT1
  go_wp2_with fail
  refine (unhide q2 _ (unhide HS2)).mono ?_
  rintro e w2 ⟨⟨t2, rfl, ht2⟩, hb2⟩
  have B2 := hide (bTr (unhide B1) hb2)
  replace HS := hide ((unhide HS).keep hb2)
  replace HS2 := hide ((unhide HS2).keep hb2)
  have HT2 := hide ht2
  clear hb2 q2 ht2 B1
  cases t2
  · have no : Hid (MP l vec []) := hide (.inl ⟨fun h => (by have := (unhide HT2).2 h.2; cases this), rfl⟩)
    go_wp2_with fail
    go_ret
    exact ⟨⟨_, [], rfl, unhide no, World.ownsRow_nil _ _ _ _⟩, unhide B2⟩
  have VG := hide ((unhide HT2).1 rfl)
  clear HT2
  have hlen : len ≤ 200 := by have := (unhide LG).1; rw [← unhide hll] at this; exact this
  have hlen2 : len2 ≤ 100 := by have := (unhide VG).1; rw [← unhide hll2] at this; exact this
  have ok1 : ∀ i (h : i < l.length), (okI l[i].t ∧ 0 < l[i].t) ∧ okI l[i].o := fun i hi => by
    have := ch_range (unhide LG).2.1 i hi
    exact ⟨⟨(okI_iff _).2 (by omega), by omega⟩, (okI_iff _).2 (by omega)⟩
  have qc := hide (fun w hs => changeLogOf_cm a len cap l w (by omega) hs ok1)
  have qv := hide (fun w hs => vectorOf_any a2 len2 cap2 vec w (by omega) hs (unhide HO2))
  have ORD := hide (log_ord (unhide LG))
  have eF := hide (filter_msg (unhide LG).2.1 vec)
  have yes : Hid (MP l vec (msg l vec)) := hide (.inr ⟨⟨unhide LG, unhide VG⟩, rfl⟩)
  clear ok1
  go_wp2_with fail
  refine (unhide qc _ (unhide HS)).mono ?_
  rintro e w3 ⟨⟨bv, bc, rfl, _, _, hc⟩, hb3⟩
  have B3 := hide (bTr (unhide B2) hb3)
  replace HS2 := hide ((unhide HS2).keep hb3)
  have hcl := hc.lt
  have HC := hide hc
  clear hb3 hc qc B2 HS
  go_wp2_with fail
  refine (unhide qv _ (unhide HS2)).mono ?_
  rintro e w4 ⟨⟨b2, rfl, _, hv⟩, hb4⟩
  have B4 := hide (bTr (unhide B3) hb4)
  have qm := hide (missing_cm bv bc len _ l b2 len2 _ w4 ((unhide HC).keepB hb4 hcl) (by omega) (unhide ORD).2 (unhide ORD).1 hv)
  rw [unhide eF] at qm
  clear hb4 hv B3 HC hcl HS2 qv
  go_wp2_with fail
  refine (unhide qm).mono ?_
  rintro e w5 ⟨⟨v, rfl, ho⟩, hb5⟩
  have O5 := hide (own_base2 ho (unhide B4).size)
  have B5 := hide (bTr (unhide B4) hb5)
  clear ho hb5 qm
  go_wp2_with fail
  go_ret
  exact ⟨⟨v, _, rfl, unhide yes, unhide O5⟩, unhide B5⟩
end Go.Proofs.Ytmkjpdfpnjcpjaa
