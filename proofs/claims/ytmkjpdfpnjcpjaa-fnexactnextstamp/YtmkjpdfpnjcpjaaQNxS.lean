/- spec.NextStamp. -/
import Derived.Test.YtmkjpdfpnjcpjaaQNx
import Derived.Test.YtmkjpdfpnjcpjaaQChH
namespace Go.Proofs.Ytmkjpdfpnjcpjaa
open Go.RowKit Go.Maps

theorem IsNx.start (l : List DcT) : IsNx l 0 1 := ⟨Int.le_refl _, fun _ _ h => absurd h (Nat.not_lt_zero _), .inl rfl⟩
theorem IsNx.stay {l : List DcT} {k : Nat} {m : Int} (h : IsNx l k m) (hk : k < l.length) (hle : l[k].t < m) : IsNx l (k + 1) m :=
  ⟨h.low, fun i hi hik => by
    rcases Nat.lt_or_ge i k with h1 | h1
    · exact h.up i hi h1
    · obtain rfl : i = k := by omega
      exact hle, by
    rcases h.one with e | ⟨i, hi, h1, e⟩
    · exact .inl e
    · exact .inr ⟨i, hi, by omega, e⟩⟩
theorem IsNx.step {l : List DcT} {k : Nat} {m : Int} (h : IsNx l k m) (hk : k < l.length) (hle : m ≤ l[k].t) : IsNx l (k + 1) (l[k].t + 1) :=
  ⟨by have := h.low; omega, fun i hi hik => by
    rcases Nat.lt_or_ge i k with h1 | h1
    · have := h.up i hi h1; omega
    · obtain rfl : i = k := by omega
      omega, .inr ⟨k, hk, by omega, rfl⟩⟩

set_option maxRecDepth 100000 in
set_option maxHeartbeats 1000000 in
theorem sNextStamp_any (a : Option Addr) (len cap : Nat) (l : List DcT) (who : Int) (w : World) (hl : len ≤ maxLen) (hs : SlC w a len l) (hok : ∀ q ∈ l, DcT.Ok q) :
    Calls Try.prog 23 #[.slice a len cap, .int .i64 who] w fun e w' => (∃ x y, e = .returned (.agg #[.int .i64 x, .int .i64 y]) ∧ NextP l who x y) ∧ Below w.heap.size w w' := by
  have q1 := hide (fun w hs => sGoodLog_any a len cap l w hl hs hok)
  have hll := hide hs.1
  have R := hide (RowIs.new w #[.int .i64 0, .int .i64 0] 41)
  have B := hide (bAl (Below.refl w.heap.size w) (.cells #[.int .i64 0, .int .i64 0] 41))
  have HS := hide (hs.keep (unhide B))
  clear hs hok hl
  go_enter Try.func23, Try.ntmps23
  go_wp2_with fail
  refine (unhide q1 _ (unhide HS)).mono ?_
  rintro e w1 ⟨⟨t1, rfl, ht1⟩, hb1⟩
  have R1 := hide ((unhide R).keep hb1)
  have B1 := hide (bTr (unhide B) hb1)
  have HS1 := hide ((unhide HS).keep hb1)
  have HT1 := hide ht1
  clear hb1 R B HS q1 ht1
  cases t1
  · have no : Hid (¬ LogG l) := hide (fun h => by have := (unhide HT1).2 h; cases this)
    have f0 := (unhide R1).froz 0
    have f1 := (unhide R1).froz 1
    have j0 := (unhide R1).at (o := 0) (v := .int .i64 0) rfl
    have j1 := (unhide R1).at (o := 1) (v := .int .i64 0) rfl
    go_wp2_with fail
    refine bodyPost_ret (v := .agg #[.int .i64 0, .int .i64 0]) (by simp [results, Try.results23, go_sem, j0, j1]) rfl ⟨⟨0, 0, rfl, .inl ⟨fun h => unhide no h.1, rfl, rfl⟩⟩, ?_⟩
    exact bSet (bSet (unhide B1) _ _ (Nat.le_refl _) _) _ _ (Nat.le_refl _) _
  have LG := hide ((unhide HT1).1 rfl)
  clear HT1
  have hlen : len ≤ 1000000 := by have := (unhide LG).1; rw [← unhide hll] at this; omega
  by_cases hw0 : who < 0
  · have no : Hid (NextP l who 0 0) := hide (.inl ⟨fun h => by omega, rfl, rfl⟩)
    have f0 := (unhide R1).froz 0
    have f1 := (unhide R1).froz 1
    have j0 := (unhide R1).at (o := 0) (v := .int .i64 0) rfl
    have j1 := (unhide R1).at (o := 1) (v := .int .i64 0) rfl
    go_wp2_with fail
    refine bodyPost_ret (v := .agg #[.int .i64 0, .int .i64 0]) (by simp [results, Try.results23, go_sem, j0, j1]) rfl ⟨⟨0, 0, rfl, unhide no⟩, ?_⟩
    exact bSet (bSet (unhide B1) _ _ (Nat.le_refl _) _) _ _ (Nat.le_refl _) _
  by_cases hw9 : 99 < who
  · have no : Hid (NextP l who 0 0) := hide (.inl ⟨fun h => by omega, rfl, rfl⟩)
    have f0 := (unhide R1).froz 0
    have f1 := (unhide R1).froz 1
    have j0 := (unhide R1).at (o := 0) (v := .int .i64 0) rfl
    have j1 := (unhide R1).at (o := 1) (v := .int .i64 0) rfl
    go_wp2_with fail
    refine bodyPost_ret (v := .agg #[.int .i64 0, .int .i64 0]) (by simp [results, Try.results23, go_sem, j0, j1]) rfl ⟨⟨0, 0, rfl, unhide no⟩, ?_⟩
    exact bSet (bSet (unhide B1) _ _ (Nat.le_refl _) _) _ _ (Nat.le_refl _) _
  have HG := hide (show LogG l ∧ 0 ≤ who ∧ who ≤ 99 from ⟨unhide LG, by omega, by omega⟩)
  go_wp2_with fail
  go_loopw [5, 22] (fun m i wr => ∃ (k : Nat) (q : Int), k ≤ len ∧ i = .int .i64 k ∧ m = .int .i64 q ∧ 1 ≤ q ∧ q ≤ 1000000001 ∧ Hid (IsNx l k q) ∧ Hid (RowIs wr w.heap.size #[.int .i64 0, .int .i64 0] 41) ∧ Hid (Below w.heap.size w wr) ∧ Hid (Below w1.heap.size w1 wr)) (fun _ i _ => len - (intOf i).toNat)
  case atStart => exact ⟨0, 1, Nat.zero_le _, rfl, rfl, by omega, by omega, hide (IsNx.start l), R1, B1, hide (Below.refl _ _)⟩
  case round =>
    clear R1 B1
    obtain ⟨k, q, hk, rfl, rfl, hq1, hq9, hN, hR, hB, hB1⟩ := hrel
    by_cases hlt : k < len
    · obtain ⟨b, off, rfl, hrow⟩ := ((unhide HS1).keep (unhide hB1)).at hlt
      have hk' : k < l.length := by rw [← (unhide HS1).1]; exact hlt
      have c0 := hrow.c0 k hk'
      have c1 := hrow.c1 k hk'
      have c2 := hrow.c2 k hk'
      have c3 := hrow.c3 k hk'
      have c4 := hrow.c4 k hk'
      have c5 := hrow.c5 k hk'
      have c6 := hrow.c6 k hk'
      have c7 := hrow.c7 k hk'
      have c8 := hrow.c8 k hk'
      have hr := ch_range (unhide LG).2.1 k hk'
      have eS := hide (fun h => (unhide hN).stay hk' h)
      have eT := hide (fun h => (unhide hN).step hk' h)
      clear hrow
      generalize l[k] = A at c0 c1 c2 c3 c4 c5 c6 c7 c8 hr eS eT
      obtain ⟨⟨ha1, ha9⟩, _, _⟩ := hr
      have B2 := hide ((unhide hB).alloc (unhide hB).size (.cells #[.int .i64 A.t, .int .i64 A.o, .int .i64 A.k, .int .i64 A.u, .int .i64 A.p, .string A.pa, .string A.pt, .string A.a, .string A.x] 54))
      have B3 := hide (bTr (unhide hB1) (bAl (Below.refl wr.heap.size wr) (.cells #[.int .i64 A.t, .int .i64 A.o, .int .i64 A.k, .int .i64 A.u, .int .i64 A.p, .string A.pa, .string A.pt, .string A.a, .string A.x] 54)))
      have R2 := hide ((unhide hR).keep (bAl (Below.refl wr.heap.size wr) (.cells #[.int .i64 A.t, .int .i64 A.o, .int .i64 A.k, .int .i64 A.u, .int .i64 A.p, .string A.pa, .string A.pt, .string A.a, .string A.x] 54)))
      by_cases hc : q ≤ A.t
      · have N2 := hide (unhide eT hc)
        clear eS eT
        go_wp2_with fail
        exact ⟨⟨k + 1, A.t + 1, by omega, by go_num, by go_num, by omega, by omega, N2, R2, B2, B3⟩, by simp [intOf]; omega⟩
      · have N2 := hide (unhide eS (by omega))
        clear eS eT
        go_wp2_with fail
        exact ⟨⟨k + 1, q, by omega, by go_num, rfl, by omega, by omega, N2, R2, B2, B3⟩, by simp [intOf]; omega⟩
    · have e : k = l.length := by rw [← unhide hll]; omega
      have N2 := hide (show IsNx l l.length q by rw [← e]; exact unhide hN)
      clear e
      have f0 := (unhide hR).froz 0
      have f1 := (unhide hR).froz 1
      have j0 := (unhide hR).at (o := 0) (v := .int .i64 0) rfl
      have j1 := (unhide hR).at (o := 1) (v := .int .i64 0) rfl
      by_cases hbig : 1000000000 < q
      · have P := hide (show NextP l who 0 0 from .inr ⟨unhide HG, q, unhide N2, .inl ⟨hbig, rfl, rfl⟩⟩)
        go_wp2_with fail
        refine bodyPost_ret (v := .agg #[.int .i64 0, .int .i64 0]) (by simp [results, Try.results23, go_sem, j0, j1]) rfl ⟨⟨0, 0, rfl, unhide P⟩, ?_⟩
        exact bSet (bSet (unhide hB) _ _ (Nat.le_refl _) _) _ _ (Nat.le_refl _) _
      · have P := hide (show NextP l who q who from .inr ⟨unhide HG, q, unhide N2, .inr ⟨by omega, rfl, rfl⟩⟩)
        go_wp2_with fail
        refine bodyPost_ret (v := .agg #[.int .i64 q, .int .i64 who]) (by simp [results, Try.results23, go_sem, j0, j1]) rfl ⟨⟨q, who, rfl, unhide P⟩, ?_⟩
        exact bSet (bSet (unhide hB) _ _ (Nat.le_refl _) _) _ _ (Nat.le_refl _) _
end Go.Proofs.Ytmkjpdfpnjcpjaa
