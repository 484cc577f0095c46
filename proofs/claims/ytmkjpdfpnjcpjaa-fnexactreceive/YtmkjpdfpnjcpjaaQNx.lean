/- impl.NextStamp. -/
import Derived.Test.YtmkjpdfpnjcpjaaQMapT
import Derived.Test.YtmkjpdfpnjcpjaaQChG
namespace Go.Proofs.Ytmkjpdfpnjcpjaa
open Go.RowKit Go.Maps

/-- One more than the greatest Time of the first k changes, 1 of none. -/
structure IsNx (l : List DcT) (k : Nat) (m : Int) : Prop where
  low : 1 ≤ m
  up : ∀ i (h : i < l.length), i < k → l[i].t < m
  one : m = 1 ∨ ∃ i, ∃ h : i < l.length, i < k ∧ m = l[i].t + 1
def NextP (l : List DcT) (who x y : Int) : Prop :=
  (¬ (LogG l ∧ 0 ≤ who ∧ who ≤ 99) ∧ x = 0 ∧ y = 0) ∨ ((LogG l ∧ 0 ≤ who ∧ who ≤ 99) ∧ ∃ m, IsNx l l.length m ∧ ((1000000000 < m ∧ x = 0 ∧ y = 0) ∨ (m ≤ 1000000000 ∧ x = m ∧ y = who)))

theorem ch_range {l : List DcT} (h : l.all chB = true) (i : Nat) (hi : i < l.length) : (1 ≤ l[i].t ∧ l[i].t ≤ 1000000000) ∧ 0 ≤ l[i].o ∧ l[i].o ≤ 99 := by
  have h1 := List.all_eq_true.1 h _ (List.getElem_mem hi)
  unfold chB stB at h1
  simp only [Bool.and_eq_true, decide_eq_true_eq] at h1
  omega
theorem IsNx.uniq {l : List DcT} {m m' : Int} (hg : l.all chB = true) (h : IsNx l l.length m) (h' : IsNx l l.length m') : m = m' := by
  rcases h.one with e | ⟨i, hi, _, e⟩
  · rcases h'.one with e' | ⟨j, hj, _, e'⟩
    · rw [e, e']
    · have := h.up j hj hj
      have := (ch_range hg j hj).1
      omega
  · rcases h'.one with e' | ⟨j, hj, _, e'⟩
    · have := h'.up i hi hi
      have := (ch_range hg i hi).1
      omega
    · have := h.up j hj hj
      have := h'.up i hi hi
      omega
theorem NextP.uniq {l : List DcT} {who x y x' y' : Int} (h : NextP l who x y) (h' : NextP l who x' y') : x = x' ∧ y = y' := by
  rcases h with ⟨n, rfl, rfl⟩ | ⟨g, m, hm, hx⟩
  · rcases h' with ⟨_, rfl, rfl⟩ | ⟨g', _⟩
    · exact ⟨rfl, rfl⟩
    · exact absurd g' n
  · rcases h' with ⟨n', _⟩ | ⟨_, m', hm', hx'⟩
    · exact absurd g n'
    · obtain rfl := hm.uniq g.1.2.1 hm'
      omega

theorem field_vec (x y : Value) (w : World) : (Instr.field 61 (.agg #[x, y]) 0).run Try.prog w = .ok x w := by
  kernel_rfl

set_option maxRecDepth 100000 in
set_option maxHeartbeats 1000000 in
theorem iNextStamp_any (a : Option Addr) (len cap : Nat) (l : List DcT) (who : Int) (w : World) (hl : len ≤ maxLen) (hs : SlC w a len l) (hok : ∀ q ∈ l, DcT.Ok q) :
    Calls Try.prog 24 #[.slice a len cap, .int .i64 who] w fun e w' => (∃ x y, e = .returned (.agg #[.int .i64 x, .int .i64 y]) ∧ NextP l who x y) ∧ Below w.heap.size w w' := by
  have q1 := hide (fun w hs => iGoodLog_any a len cap l w hl hs hok)
  have hll := hide hs.1
  have R := hide (RowIs.new w #[.int .i64 0, .int .i64 0] 41)
  have B := hide (bAl (Below.refl w.heap.size w) (.cells #[.int .i64 0, .int .i64 0] 41))
  have HS := hide (hs.keep (unhide B))
  clear hs hok hl
  go_enter Try.func24, Try.ntmps24
  go_wp2_with fail
  refine (unhide q1 _ (unhide HS)).mono ?_
  rintro e w1 ⟨⟨t1, rfl, ht1⟩, hb1⟩
  have R1 := hide ((unhide R).keep hb1)
  have B1 := hide (bTr (unhide B) hb1)
  have HS1 := hide ((unhide HS).keep hb1)
  have HT1 := hide ht1
  clear hb1 R B HS q1 ht1
  cases t1
  · have no : Hid (¬ LogG l) := hide (fun h => by have := (unhide HT1).2 h; cases this)
    have f0 := (unhide R1).froz 0
    have f1 := (unhide R1).froz 1
    have j0 := (unhide R1).at (o := 0) (v := .int .i64 0) rfl
    have j1 := (unhide R1).at (o := 1) (v := .int .i64 0) rfl
    go_wp2_with fail
    refine bodyPost_ret (v := .agg #[.int .i64 0, .int .i64 0]) (by simp [results, Try.results24, go_sem, j0, j1]) rfl ⟨⟨0, 0, rfl, .inl ⟨fun h => unhide no h.1, rfl, rfl⟩⟩, ?_⟩
    exact bSet (bSet (unhide B1) _ _ (Nat.le_refl _) _) _ _ (Nat.le_refl _) _
  have LG := hide ((unhide HT1).1 rfl)
  clear HT1
  have hlen : len ≤ 1000000 := by have := (unhide LG).1; rw [← unhide hll] at this; omega
  have qc := hide (changeLogOf_any a len cap l w1 hlen (unhide HS1) (fun i hi => by
    have := ch_range (unhide LG).2.1 i hi
    exact ⟨⟨(okI_iff _).2 (by omega), by omega⟩, (okI_iff _).2 (by omega)⟩))
  go_wp2_with fail
  refine (unhide qc).mono ?_
  rintro e w2 ⟨⟨bv, bc, tv, rfl, hv, htv⟩, hb2⟩
  have R2 := hide ((unhide R1).keep hb2)
  have B2 := hide (bTr (unhide B1) hb2)
  have HV := hide hv
  have HTV := hide htv
  clear hb2 hv htv R1 B1 qc HS1
  have ff := field_vec (.map (some bv)) (.map (some bc)) w2
  go_wp2_with fail
  clear ff
  refine (newest_any bv len tv _ (unhide HV)).mono ?_
  rintro e w3 ⟨q, rfl, hq0, hqo, hqe, hql, hb3⟩
  have NX := hide (show IsNx l l.length (q + 1) by
    have hl' : len = l.length := unhide hll
    refine ⟨by omega, fun i hi _ => ?_, ?_⟩
    · have h1 := (unhide HTV).up i hi (by omega)
      have h2 := ch_range (unhide LG).2.1 i hi
      have h3 := hql l[i].o ((okI_iff _).2 (by omega))
      omega
    · rcases hqe with h | ⟨z, _, h⟩
      · exact .inl (by omega)
      · rcases (unhide HTV).one z with h1 | ⟨i, hi, _, h1, _⟩
        · exact .inl (by omega)
        · exact .inr ⟨i, hi, hi, by omega⟩)
  have hq9 : q ≤ 1000000000 := by
    rcases (unhide NX).one with h | ⟨i, hi, _, h⟩
    · omega
    · have := ch_range (unhide LG).2.1 i hi; omega
  have R3 := hide ((unhide R2).keep hb3)
  have B3 := hide (bTr (unhide B2) hb3)
  clear hb3 R2 B2 hqo hqe hql HV HTV
  have B4 := hide ((unhide B3).alloc (unhide B3).size (.cells #[.int .i64 (q + 1), .int .i64 who] 41))
  have R4 := hide ((unhide R3).keep (bAl (Below.refl w3.heap.size w3) (.cells #[.int .i64 (q + 1), .int .i64 who] 41)))
  have RN := hide (RowIs.new w3 #[.int .i64 (q + 1), .int .i64 who] 41)
  have qg := hide (fun w => goodStamp_any (q + 1) who w)
  go_wp2_with fail
  refine (unhide qg _).mono ?_
  rintro e w5 ⟨rfl, hb5⟩
  have r5 := (unhide R4).keep hb5
  have n5 := (unhide RN).keep hb5
  have B5 := hide (bTr (unhide B4) hb5)
  have f0 := r5.froz 0
  have f1 := r5.froz 1
  have j0 := r5.at (o := 0) (v := .int .i64 0) rfl
  have j1 := r5.at (o := 1) (v := .int .i64 0) rfl
  have d0 := n5.at (o := 0) (v := .int .i64 (q + 1)) rfl
  have d1 := n5.at (o := 1) (v := .int .i64 who) rfl
  clear hb5 r5 n5 R4 RN B4 qg R3 B3
  cases hst : stB (q + 1) who
  · have no : Hid (NextP l who 0 0) := hide (by
      unfold stB at hst
      by_cases hw : 0 ≤ who ∧ who ≤ 99
      · refine .inr ⟨⟨unhide LG, hw⟩, q + 1, unhide NX, .inl ⟨?_, rfl, rfl⟩⟩
        apply Classical.byContradiction
        intro h
        rw [decide_eq_true (show 1 ≤ q + 1 by omega), decide_eq_true (show q + 1 ≤ 1000000000 by omega), decide_eq_true hw.1, decide_eq_true hw.2] at hst
        cases hst
      · exact .inl ⟨fun h => hw h.2, rfl, rfl⟩)
    clear hst
    go_wp2_with fail
    refine bodyPost_ret (v := .agg #[.int .i64 0, .int .i64 0]) (by simp [results, Try.results24, go_sem, j0, j1]) rfl ⟨⟨0, 0, rfl, unhide no⟩, ?_⟩
    exact bSet (bSet (unhide B5) _ _ (Nat.le_refl _) _) _ _ (Nat.le_refl _) _
  · have yes : Hid (NextP l who (q + 1) who) := hide (by
      unfold stB at hst
      simp only [Bool.and_eq_true, decide_eq_true_eq] at hst
      exact .inr ⟨⟨unhide LG, hst.2.2.1, hst.2.2.2⟩, q + 1, unhide NX, .inr ⟨hst.2.1, rfl, rfl⟩⟩)
    clear hst
    go_wp2_with fail
    refine bodyPost_ret (v := .agg #[.int .i64 (q + 1), .int .i64 who]) (by simp [results, Try.results24, go_sem, j0, j1]) rfl ⟨⟨q + 1, who, rfl, unhide yes⟩, ?_⟩
    exact bSet (bSet (unhide B5) _ _ (Nat.le_refl _) _) _ _ (Nat.le_refl _) _
end Go.Proofs.Ytmkjpdfpnjcpjaa
