/- laws.toElemS, and that a copy's room is no less than its length. -/
import Derived.Test.YtdhpfhpegaekpaaDoorEMg
namespace Go.Proofs.YtdhpfhpegaekpaaDoor.V
set_option linter.unusedSimpArgs false
open Go.ChangeShapes Go.WideShapes Go.RowKit

set_option maxRecDepth 100000 in
set_option maxHeartbeats 4000000 in
theorem toElemS_c (h : Hd) (xs : List ElemT) (w : World) (hl : xs.length ≤ 1048576 ∧ ∀ q ∈ xs, ElemSm q) (hs : SqElem w 0 h xs) :
    Calls Tryd.prog 7 #[.slice h.a h.len h.cap] w fun e w' => (∃ h' : Hd, e = .returned (.slice h'.a h'.len h'.cap) ∧ h'.len ≤ h'.cap ∧ SqElem w' w.heap.size h' xs) ∧ Below w.heap.size w w' := by
  obtain ⟨l, rfl, hs⟩ := hs
  have hsm : ∀ q ∈ l, ElemSm q.t := fun q hq => hl.2 _ (List.mem_map_of_mem hq)
  have hll : l.length ≤ 1048576 := by have := hl.1; simpa using this
  clear hl
  have hle := hs.1
  obtain ⟨a, len, cap⟩ := h
  simp only at hle
  obtain ⟨w1, C1, hrun, hb1, hr1, hC1⟩ := make_Elem len w (by omega)
  have HS := hide hs
  have HM := hide hsm
  have HB1 := hide hb1
  have HR1 := hide hr1
  have HL := hide hle
  clear hs hb1 hr1 hsm hle
  go_enter Tryd.func7, Tryd.ntmps7
  go_wp2
  clear hrun
  go_loopw [4] (fun i w' => ∃ (k : Nat) (C : Array Value) (l' : List ElemE), k ≤ len ∧ i = .int .i64 k ∧ Hid (l'.length = k ∧ l'.map (·.t) = (l.map (·.t)).take k) ∧ Hid (Below w.heap.size w w') ∧ Hid (RowIs w' w.heap.size C 35) ∧ Hid (C.size = len * 5) ∧ Hid (FilledElem C l') ∧ Hid (∀ e ∈ l', ElemM w' (w.heap.size + 1) e)) (fun i _ => len - (Go.RowKit.intOf i).toNat)
  case atStart => exact ⟨0, C1, [], Nat.zero_le _, rfl, hide ⟨rfl, by simp⟩, HB1, HR1, hide hC1, hide (fun i h => absurd h (Nat.not_lt_zero _)), hide (fun e he => by cases he)⟩
  case round =>
    obtain ⟨k, C, l', hk, rfl, hl', hb, hr, hC, hF, hMs⟩ := hrel
    by_cases hlt : k < len
    · obtain ⟨b, off, e0, hrow⟩ := ((unhide HS).keep (unhide hb)).at hlt
      simp only at e0
      subst e0
      have hk' : k < l.length := by have := unhide HL; omega
      have c0 := hrow.c0 k hk'
      have c1 := hrow.c1 k hk'
      have c2 := hrow.c2 k hk'
      have c3 := hrow.c3 k hk'
      have c4 := hrow.c4 k hk'
      have ht := hide (fun (w : World) hb => toElem_n l[k] w (unhide HM _ (List.getElem_mem hk')) (((unhide HS).2.2 _ (List.getElem_mem hk')).keep hb))
      have htk : Hid (∀ A' : ElemE, A'.t = l[k].t → (l' ++ [A']).length = k + 1 ∧ (l' ++ [A']).map (·.t) = (l.map (·.t)).take (k + 1)) := hide (fun A' e => by
        refine ⟨by simp [(unhide hl').1], ?_⟩
        rw [List.map_append, (unhide hl').2, List.take_add_one]
        simp [hk', e])
      clear hrow hC1
      generalize l[k] = A at ht htk c0 c1 c2 c3 c4
      go_wp2_with fail
      refine (unhide ht _ (unhide hb)).mono ?_
      rintro e w2 ⟨⟨A', eA, rfl, hMA⟩, hb2⟩
      have zb : w.heap.size < wr.heap.size := (unhide hr).lt
      have hMA' := hide (hMA.lo (lo' := w.heap.size + 1) zb)
      replace hr := hide ((unhide hr).keep hb2)
      replace hb := hide (bTr (unhide hb) hb2)
      replace hMs := hide (fun e he => (unhide hMs e he).keep hb2)
      have hF' := hide ((unhide hF).snoc A' (by rw [unhide hC, (unhide hl').1]; omega))
      have hl2 := hide (unhide htk A' eA)
      have el : l'.length = k := (unhide hl').1
      rw [el] at hF'
      have s9 : k * 5 + 4 < C.size := by rw [unhide hC]; omega
      obtain ⟨D0, d0⟩ : ∃ D, C[k * 5]? = some D := ⟨_, Array.getElem?_eq_getElem (by omega)⟩
      have g0 := (unhide hr).at d0
      have y0 := (unhide hr).froz (k * 5)
      clear d0
      obtain ⟨D1, d1⟩ : ∃ D, C[k * 5 + 1]? = some D := ⟨_, Array.getElem?_eq_getElem (by omega)⟩
      have g1 := (unhide hr).at d1
      have y1 := (unhide hr).froz (k * 5 + 1)
      clear d1
      obtain ⟨D2, d2⟩ : ∃ D, C[k * 5 + 2]? = some D := ⟨_, Array.getElem?_eq_getElem (by omega)⟩
      have g2 := (unhide hr).at d2
      have y2 := (unhide hr).froz (k * 5 + 2)
      clear d2
      obtain ⟨D3, d3⟩ : ∃ D, C[k * 5 + 3]? = some D := ⟨_, Array.getElem?_eq_getElem (by omega)⟩
      have g3 := (unhide hr).at d3
      have y3 := (unhide hr).froz (k * 5 + 3)
      clear d3
      obtain ⟨D4, d4⟩ : ∃ D, C[k * 5 + 4]? = some D := ⟨_, Array.getElem?_eq_getElem (by omega)⟩
      have g4 := (unhide hr).at d4
      have y4 := (unhide hr).froz (k * 5 + 4)
      clear d4
      clear c0 c1 c2 c3 c4 hb2 hMA eA htk hF hl' ht
      go_wp2_with fail
      refine ⟨⟨k + 1, setElem C k A', l' ++ [A'], by omega, by go_num, hl2, hide ?_, hide ?_, hide (by rw [size_setElem]; exact unhide hC), hF', hide ?_⟩, by simp [Go.RowKit.intOf]; omega⟩
      · repeat refine bSt ?_ (Nat.le_refl _) _ _
        exact unhide hb
      · exact (((((unhide hr).set _ _).set _ _).set _ _).set _ _).set _ _
      · have fr : Fr (w.heap.size + 1) w2 _ := ((((((Fr.below (Below.refl _ w2) _).sets (o' := k * 5) (.string A'.t.f0) (Nat.lt_succ_self _)).sets (o' := k * 5 + 1) (.string A'.t.f1) (Nat.lt_succ_self _)).sets (o' := k * 5 + 2) (.slice A'.h2.a A'.h2.len A'.h2.cap) (Nat.lt_succ_self _)).sets (o' := k * 5 + 3) (.slice A'.h3.a A'.h3.len A'.h3.cap) (Nat.lt_succ_self _)).sets (o' := k * 5 + 4) (.int .i64 A'.t.f4) (Nat.lt_succ_self _))
        intro e he
        rcases List.mem_append.1 he with h | h
        · exact (unhide hMs e h).fr fr
        · obtain rfl : e = A' := by simpa using h
          exact (unhide hMA').fr fr
    · go_wp2_with fail
      go_ret
      have hle := unhide HL
      have e : k = l.length := by omega
      have el : l'.length = k := (unhide hl').1
      exact ⟨⟨⟨some ⟨w.heap.size, 0, none⟩, len, len⟩, rfl, Nat.le_refl _, l', by rw [(unhide hl').2, e, List.take_of_length_le (by simp)], by simp only; omega, .inr ⟨_, _, rfl, Lo.own (fun o => (unhide hr).froz o), (unhide hF).row (unhide hr)⟩, fun e he => (unhide hMs e he).lo (Nat.le_succ _)⟩, unhide hb⟩
end Go.Proofs.YtdhpfhpegaekpaaDoor.V
