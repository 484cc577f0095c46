/- The vector's stamps: what the maps give is what the specification gives. -/
import Derived.Test.YtmkjpdfpnjcpjaaQStm
import Derived.Test.YtmkjpdfpnjcpjaaQVec
import Derived.Test.YtmkjpdfpnjcpjaaQNx
namespace Go.Proofs.Ytmkjpdfpnjcpjaa
open Go.RowKit Go.Maps

theorem mostTo_char (l : List DcT) (who : Int) : ∀ k, k ≤ l.length → 0 ≤ mostTo l who k ∧ (∀ i (h : i < l.length), i < k → l[i].o = who → l[i].t ≤ mostTo l who k) ∧ (mostTo l who k = 0 ∨ ∃ i, ∃ h : i < l.length, i < k ∧ mostTo l who k = l[i].t ∧ l[i].o = who)
  | 0, _ => ⟨Int.le_refl _, fun _ _ h => absurd h (Nat.not_lt_zero _), .inl rfl⟩
  | k + 1, hk => by
    obtain ⟨h0, h1, h2⟩ := mostTo_char l who k (by omega)
    rw [mostTo_succ l who k (by omega)]
    unfold mostStep
    split
    · rename_i hc
      refine ⟨by omega, fun i hi hik ho => ?_, .inr ⟨k, by omega, by omega, rfl, hc.1⟩⟩
      rcases Nat.lt_or_ge i k with h | h
      · have := h1 i hi h ho; omega
      · obtain rfl : i = k := by omega
        omega
    · rename_i hc
      refine ⟨h0, fun i hi hik ho => ?_, ?_⟩
      · rcases Nat.lt_or_ge i k with h | h
        · exact h1 i hi h ho
        · obtain rfl : i = k := by omega
          apply Classical.byContradiction
          intro hh
          exact hc ⟨ho, by omega⟩
      · rcases h2 with e | ⟨i, hi, h, e⟩
        · exact .inl e
        · exact .inr ⟨i, hi, by omega, e⟩

theorem tv_most {l : List DcT} {tv : Int → Int} (h : TvIs l l.length tv) (a : Int) : tv a = most l a := by
  obtain ⟨h0, h1, h2⟩ := mostTo_char l a l.length (Nat.le_refl _)
  rw [mostTo_all] at h0 h1 h2
  have hp := h.pos a
  apply Int.le_antisymm
  · rcases h.one a with e | ⟨i, hi, hk, e, ho⟩
    · omega
    · have := h1 i hi hk ho; omega
  · rcases h2 with e | ⟨i, hi, hk, e, ho⟩
    · omega
    · have := h.up i hi hk
      rw [ho] at this
      omega

/-- The Whos below k that a log has. -/
def wh (l : List DcT) : Nat → List Int
  | 0 => []
  | k + 1 => wh l k ++ if 0 < most l (k : Int) then [(k : Int)] else []
theorem vecTo_wh (l : List DcT) : ∀ k, vecTo l k = prs (most l) (wh l k)
  | 0 => rfl
  | k + 1 => by
    unfold vecTo wh
    rw [vecTo_wh l k]
    unfold prs
    split <;> simp
theorem wh_mem (l : List DcT) : ∀ k a, a ∈ wh l k ↔ (0 ≤ a ∧ a < k ∧ 0 < most l a)
  | 0, a => by simp [wh]; omega
  | k + 1, a => by
    unfold wh
    rw [List.mem_append, wh_mem l k a]
    split
    · rename_i h
      simp only [List.mem_cons, List.not_mem_nil, or_false]
      constructor
      · rintro (⟨h1, h2, h3⟩ | rfl)
        · exact ⟨h1, by omega, h3⟩
        · exact ⟨by omega, by omega, h⟩
      · rintro ⟨h1, h2, h3⟩
        by_cases e : a = (k : Int)
        · exact .inr e
        · exact .inl ⟨h1, by omega, h3⟩
    · rename_i h
      simp only [List.not_mem_nil, or_false]
      constructor
      · rintro ⟨h1, h2, h3⟩; exact ⟨h1, by omega, h3⟩
      · rintro ⟨h1, h2, h3⟩
        refine ⟨h1, ?_, h3⟩
        apply Classical.byContradiction
        intro hh
        obtain rfl : a = (k : Int) := by omega
        exact h h3
theorem wh_ris (l : List DcT) : ∀ k, (wh l k).Pairwise (· < ·)
  | 0 => List.Pairwise.nil
  | k + 1 => by
    unfold wh
    rw [List.pairwise_append]
    refine ⟨wh_ris l k, ?_, fun a ha b hb => ?_⟩
    · split <;> simp
    · have := (wh_mem l k a).1 ha
      split at hb
      · simp at hb; omega
      · simp at hb
theorem ks_wh {l : List DcT} {tv : Int → Int} {ks : List Int} (hg : l.all chB = true) (ht : TvIs l l.length tv) (hk : KsIs tv ks) : ks = wh l 100 := by
  have n1 : ks.Nodup := hk.ris.imp fun h => by omega
  have n2 : (wh l 100).Nodup := (wh_ris l 100).imp fun h => by omega
  have hp : ks.Perm (wh l 100) := (List.perm_ext_iff_of_nodup n1 n2).2 fun a => by
    rw [hk.mem, wh_mem, tv_most ht]
    constructor
    · rintro ⟨_, h⟩
      rcases ht.one a with e | ⟨i, hi, _, e, ho⟩
      · rw [tv_most ht] at e; omega
      · have := ch_range hg i hi
        refine ⟨by omega, by omega, h⟩
    · rintro ⟨h1, h2, h3⟩
      exact ⟨(okI_iff a).2 (by omega), h3⟩
  exact List.Perm.eq_of_pairwise (le := (· < ·)) (fun a b _ _ h1 h2 => by omega) hk.ris (wh_ris l 100) hp
theorem prs_vec {l : List DcT} {tv : Int → Int} {ks : List Int} (hg : l.all chB = true) (ht : TvIs l l.length tv) (hk : KsIs tv ks) : prs tv ks = vecTo l 100 := by
  rw [vecTo_wh, ks_wh hg ht hk]
  unfold prs
  exact List.map_congr_left fun a _ => by rw [tv_most ht]

def VP (l : List DcT) (r : List (Int × Int)) : Prop := (¬ LogG l ∧ r = []) ∨ (LogG l ∧ r = vecTo l 100)
theorem VP.uniq {l : List DcT} {r r' : List (Int × Int)} (h : VP l r) (h' : VP l r') : r = r' := by
  rcases h with ⟨n, e⟩ | ⟨g, e⟩ <;> rcases h' with ⟨n', e'⟩ | ⟨g', e'⟩
  · exact e.trans e'.symm
  · exact absurd g' n
  · exact absurd g n'
  · exact e.trans e'.symm
theorem VP.len {l : List DcT} {r : List (Int × Int)} (h : VP l r) : r.length ≤ 100 := by
  rcases h with ⟨_, e⟩ | ⟨_, e⟩
  · rw [e]; exact Nat.zero_le _
  · rw [e]; exact vecTo_len l 100

set_option maxRecDepth 100000 in
set_option maxHeartbeats 1000000 in
theorem sVectorOf_any (a : Option Addr) (len cap : Nat) (l : List DcT) (w : World) (hl : len ≤ maxLen) (hs : SlC w a len l) (hok : ∀ q ∈ l, DcT.Ok q) :
    Calls Try.prog 14 #[.slice a len cap] w fun e w' => (∃ v r, e = .returned v ∧ VP l r ∧ w'.ownsRow w.heap.size 41 2 v r.length (stsV r)) ∧ Below w.heap.size w w' := by
  have q1 := hide (sGoodLog_any a len cap l w hl hs hok)
  have q2 := hide (fun w hs => l4Vector_any a len cap l w hl hs)
  have HS := hide hs
  clear hs hok hl
  go_enter Try.func14, Try.ntmps14
  go_wp2_with fail
  refine (unhide q1).mono ?_
  rintro e w1 ⟨⟨t1, rfl, ht1⟩, hb1⟩
  have B1 := hide hb1
  have HS1 := hide ((unhide HS).keep hb1)
  have HT1 := hide ht1
  clear hb1 HS q1 ht1
  cases t1
  · have no : Hid (VP l []) := hide (.inl ⟨fun h => (by have := (unhide HT1).2 h; cases this), rfl⟩)
    go_wp2_with fail
    go_ret
    exact ⟨⟨_, [], rfl, unhide no, World.ownsRow_nil _ _ _ _⟩, unhide B1⟩
  have yes : Hid (VP l (vecTo l 100)) := hide (.inr ⟨(unhide HT1).1 rfl, rfl⟩)
  clear HT1
  go_wp2_with fail
  refine (unhide q2 _ (unhide HS1)).mono ?_
  rintro e w2 ⟨⟨v, rfl, ho⟩, hb2⟩
  have O2 := hide (own_base ho (unhide B1).size)
  have B2 := hide (bTr (unhide B1) hb2)
  clear ho hb2 q2
  go_wp2_with fail
  go_ret
  exact ⟨⟨v, _, rfl, unhide yes, unhide O2⟩, unhide B2⟩

set_option maxRecDepth 100000 in
set_option maxHeartbeats 1000000 in
theorem iVectorOf_any (a : Option Addr) (len cap : Nat) (l : List DcT) (w : World) (hl : len ≤ maxLen) (hs : SlC w a len l) (hok : ∀ q ∈ l, DcT.Ok q) :
    Calls Try.prog 15 #[.slice a len cap] w fun e w' => (∃ v r, e = .returned v ∧ VP l r ∧ w'.ownsRow w.heap.size 41 2 v r.length (stsV r)) ∧ Below w.heap.size w w' := by
  have q1 := hide (iGoodLog_any a len cap l w hl hs hok)
  have HS := hide hs
  have hll := hide hs.1
  clear hs hok hl
  go_enter Try.func15, Try.ntmps15
  go_wp2_with fail
  refine (unhide q1).mono ?_
  rintro e w1 ⟨⟨t1, rfl, ht1⟩, hb1⟩
  have B1 := hide hb1
  have HS1 := hide ((unhide HS).keep hb1)
  have HT1 := hide ht1
  clear hb1 HS q1 ht1
  cases t1
  · have no : Hid (VP l []) := hide (.inl ⟨fun h => (by have := (unhide HT1).2 h; cases this), rfl⟩)
    go_wp2_with fail
    go_ret
    exact ⟨⟨_, [], rfl, unhide no, World.ownsRow_nil _ _ _ _⟩, unhide B1⟩
  have LG := hide ((unhide HT1).1 rfl)
  clear HT1
  have hlen : len ≤ 1000 := by have := (unhide LG).1; rw [← unhide hll] at this; omega
  have qc := hide (changeLogOf_any a len cap l w1 (by omega) (unhide HS1) (fun i hi => by
    have := ch_range (unhide LG).2.1 i hi
    exact ⟨⟨(okI_iff _).2 (by omega), by omega⟩, (okI_iff _).2 (by omega)⟩))
  go_wp2_with fail
  refine (unhide qc).mono ?_
  rintro e w2 ⟨⟨bv, bc, tv, rfl, hv, htv⟩, hb2⟩
  have B2 := hide (bTr (unhide B1) hb2)
  have HV := hide hv
  have HTV := hide (show TvIs l l.length tv by rw [← unhide hll]; exact htv)
  clear hb2 hv htv B1 qc HS1
  have ff := field_vec (.map (some bv)) (.map (some bc)) w2
  go_wp2_with fail
  clear ff
  refine (stamps_any bv len tv _ (unhide HV) hlen).mono ?_
  rintro e w3 ⟨⟨v, ks, rfl, hks, _, ho⟩, hb3⟩
  have eR := prs_vec (unhide LG).2.1 (unhide HTV) hks
  rw [eR] at ho
  have O3 := hide (own_base ho (unhide B2).size)
  have B3 := hide (bTr (unhide B2) hb3)
  have yes : Hid (VP l (vecTo l 100)) := hide (.inr ⟨unhide LG, rfl⟩)
  clear ho hb3 hks eR HV HTV
  go_wp2_with fail
  go_ret
  exact ⟨⟨v, _, rfl, unhide yes, unhide O3⟩, unhide B3⟩
end Go.Proofs.Ytmkjpdfpnjcpjaa
