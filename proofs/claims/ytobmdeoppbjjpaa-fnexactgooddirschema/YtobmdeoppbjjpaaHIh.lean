/- impl.GoodDirSchema. -/
import Derived.Test.YtobmdeoppbjjpaaHIg
namespace Go.Proofs.Ytobmdeoppbjjpaa.V
set_option linter.unusedSimpArgs false
set_option linter.unusedVariables false
open Go.RowKit Go.Maps

set_option maxRecDepth 20000 in
set_option maxHeartbeats 2000000 in
theorem iGoodDirSchema_n (e : DirSchemaE) (w : World) (hn : DirSchemaN e.t) (hm : DirSchemaM w 0 e) :
    Calls Try.prog 7 #[.agg #[.slice e.h0.a e.h0.len e.h0.cap, .slice e.h1.a e.h1.len e.h1.cap]] w fun r w' => RetB r (GDs e.t) ∧ Below w.heap.size w w' := by
  obtain ⟨⟨xt, xa⟩, h0, h1⟩ := e
  obtain ⟨st, sa, _⟩ := hm
  obtain ⟨ot, lt', oa, la', _⟩ := hn
  simp only at st sa ot lt' oa la' ⊢
  obtain ⟨lt, rfl, st⟩ := st
  obtain ⟨la, rfl, sa⟩ := sa
  have HTN : Hid (∀ e ∈ lt, AttrTypeN e.t) := hide (fun e he => ot _ (List.mem_map_of_mem he))
  have HAN : Hid (∀ e ∈ la, ClassN e.t) := hide (fun e he => oa _ (List.mem_map_of_mem he))
  have LTM : Hid (lt.length ≤ maxLen) := hide (by simpa using lt')
  have LAM : Hid (la.length ≤ maxLen) := hide (by simpa using la')
  have HTL := hide st.1
  have HAL := hide sa.1
  have HT := hide st
  have HA := hide sa
  have LM0 : h0.len ≤ maxLen := by rw [st.1]; simpa using lt'
  have LM1 : h1.len ≤ maxLen := by rw [sa.1]; simpa using la'
  unfold maxLen at LM0 LM1
  have B := hide (bAl (Below.refl w.heap.size w) (.cells #[.slice h0.a h0.len h0.cap, .slice h1.a h1.len h1.cap] 31))
  have R := hide (RowIs.new w #[.slice h0.a h0.len h0.cap, .slice h1.a h1.len h1.cap] 31)
  clear st sa ot lt' oa la'
  by_cases d0 : h0.len ≤ 40
  case neg =>
    have no : Hid (¬ GDs ⟨lt.map (·.t), la.map (·.t)⟩) := hide (fun g => d0 (by have := g.1.1; simp at this; have := unhide HTL; omega))
    have d : decide (40 < (h0.len : Int)) = true := by simp; omega
    go_enter Try.func7, Try.ntmps7
    go_wp2_with fail
    go_ret
    exact ⟨retB (b := false) ⟨fun h => (by cases h), fun h => absurd h (unhide no)⟩, unhide B⟩
  by_cases d1 : h1.len ≤ 20
  case neg =>
    have no : Hid (¬ GDs ⟨lt.map (·.t), la.map (·.t)⟩) := hide (fun g => d1 (by have := g.1.2; simp at this; have := unhide HAL; omega))
    have d : decide (40 < (h0.len : Int)) = false := by simp; omega
    have d' : decide (20 < (h1.len : Int)) = true := by simp; omega
    go_enter Try.func7, Try.ntmps7
    go_wp2_with fail
    go_ret
    exact ⟨retB (b := false) ⟨fun h => (by cases h), fun h => absurd h (unhide no)⟩, unhide B⟩
  have d : decide (40 < (h0.len : Int)) = false := by simp; omega
  have d' : decide (20 < (h1.len : Int)) = false := by simp; omega
  have c0 : lt.length ≤ 40 := by have := unhide HTL; omega
  have c1 : la.length ≤ 20 := by have := unhide HAL; omega
  have C0 := hide c0
  have C1 := hide c1
  have q := hide (fun (w' : World) (hb : Below w.heap.size w w') => dirIndexOf_n h0 h1 lt la w' (by omega) (by omega) (unhide HTN) (unhide HAN) ((unhide HT).keep hb) ((unhide HA).keep hb))
  clear d0 d1 c0 c1
  go_enter Try.func7, Try.ntmps7
  go_wp2_with fail
  refine (unhide q _ (unhide B)).mono ?_
  rintro r w1 ⟨⟨b1, b2, rfl, k1, k2⟩, hb⟩
  obtain ⟨Mt, Ct, hMt, hCt⟩ := k1.told
  obtain ⟨Mc, Cc, ⟨D, ho, hD⟩, hCc⟩ := k2.told
  have KT1 := hide k1
  replace R := hide ((unhide R).keep hb)
  replace B := hide (bTr (unhide B) hb)
  have HN : Hid ((la.map (·.t.f0)).Nodup → la.length ≤ Maps.size D) := hide (fun nd => by
    have := KM.size_ge ho hD (la.map (·.t.f0)) (fun x hx => by
      obtain ⟨e, he, rfl⟩ := List.mem_map.1 hx
      obtain ⟨g1, g2, _⟩ := hCc e.t.f0
      refine ⟨(unhide HAN e he).o0, ?_⟩
      have := g2.2 ⟨e, he, rfl⟩
      rw [g1]
      cases hc : Cc e.t.f0
      · rw [hc] at this; cases this
      · rfl) nd
    simpa using this)
  have GI := hide (gds_iff (unhide C0) (unhide C1) hCt hCc (unhide HN))
  have q1 := hide (fun (w' : World) (hb : Below w1.heap.size w1 w') => goodTypes_n b1 b2 h0 lt Mt Ct lt.length w' (unhide LTM) (((unhide HT).keep (unhide B)).keep hb) (unhide HTN) (hMt.keepB hb hMt.lt) hCt)
  have q2 := hide (fun (w' : World) (hb : Below w1.heap.size w1 w') => goodClasses_n b1 b2 (fun x => EndsF (fun s => (Cc s).map (·.t)) (Maps.size D) x.t.f0 ∧ goodName x.t.f0 = true ∧ GN lt x.t.f2 ∧ GN lt x.t.f3) h1 la w' (unhide LAM) (((unhide HA).keep (unhide B)).keep hb) (fun x hx w'' hb2 => goodClass_n b1 b2 lt la Mc Cc D x w'' (by have := unhide C1; omega) (unhide HAN) (ownsMapB (ownsMapB ho hb) hb2) hD hCc ((k1.keep hb).keep hb2) (unhide HAN x hx) (((((unhide HA).keep (unhide B)).keep hb).keep hb2).2.2 x hx)))
  generalize ((∀ x ∈ lt, GTy x.t) ∧ (∀ i (h : i + 1 < lt.length), cmpT lt[i].t.f0.data.toList lt[i + 1].t.f0.data.toList < 0) ∧ ∃ e, Ct clsW = some e ∧ e.t = ⟨clsW, 2, false⟩) = P1 at q1 GI
  generalize ((∀ x ∈ la, EndsF (fun s => (Cc s).map (·.t)) (Maps.size D) x.t.f0 ∧ goodName x.t.f0 = true ∧ GN lt x.t.f2 ∧ GN lt x.t.f3) ∧ ∀ i (h : i + 1 < la.length), cmpT la[i].t.f0.data.toList la[i + 1].t.f0.data.toList < 0) = P2 at q2 GI
  have s0 := (unhide R).at (o := 0) (v := .slice h0.a h0.len h0.cap) rfl
  have s1 := (unhide R).at (o := 1) (v := .slice h1.a h1.len h1.cap) rfl
  have BA := hide (bAl (Below.refl w1.heap.size w1) (.cells #[.map (some b1), .map (some b2)] 55))
  have RX := hide (RowIs.new w1 #[.map (some b1), .map (some b2)] 55)
  have RS := hide ((unhide R).keep (unhide BA))
  have zl := (unhide R).lt
  have t0 := (unhide RS).at (o := 0) (v := .slice h0.a h0.len h0.cap) rfl
  clear hb k1 k2 hMt hCt ho hD hCc q KT1 HN HTN HAN LTM LAM HT HA
  go_wp2_with fail
  refine (unhide q1 _ (unhide BA)).mono ?_
  rintro r w2 ⟨⟨v1, rfl, hv⟩, hb⟩
  replace RX := hide ((unhide RX).keep hb)
  replace RS := hide ((unhide RS).keep hb)
  replace BA := hide (bTr (unhide BA) hb)
  have H1 := hide hv
  clear hb hv q1 s0 s1 t0
  cases v1
  case false =>
    have no : Hid (¬ GDs ⟨lt.map (·.t), la.map (·.t)⟩) := hide (fun g => by have := (unhide H1).2 ((unhide GI).1 g).1; cases this)
    clear GI H1
    go_wp2_with fail
    go_ret
    exact ⟨retB (b := false) ⟨fun h => (by cases h), fun h => absurd h (unhide no)⟩, bTr (unhide B) (unhide BA)⟩
  replace H1 := hide ((unhide H1).1 rfl)
  have s1 := (unhide RS).at (o := 1) (v := .slice h1.a h1.len h1.cap) rfl
  have p0 := (unhide RX).at (o := 0) (v := .map (some b1)) rfl
  have p1 := (unhide RX).at (o := 1) (v := .map (some b2)) rfl
  go_wp2_with fail
  refine (unhide q2 _ (unhide BA)).mono ?_
  rintro r w3 ⟨⟨v2, rfl, hv⟩, hb⟩
  replace BA := hide (bTr (unhide BA) hb)
  have H2 := hide hv
  clear hb hv q2 s1 p0 p1
  go_wp2_with fail
  go_ret
  exact ⟨retB (b := v2) ((unhide H2).trans ⟨fun h => (unhide GI).2 ⟨unhide H1, h⟩, fun h => ((unhide GI).1 h).2⟩), bTr (unhide B) (unhide BA)⟩
end Go.Proofs.Ytobmdeoppbjjpaa.V
