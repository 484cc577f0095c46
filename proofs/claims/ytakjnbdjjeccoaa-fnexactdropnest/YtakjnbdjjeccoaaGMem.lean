/- spec.MembersOf. -/
import Derived.Test.YtakjnbdjjeccoaaGGro2
namespace Go.Proofs.Ytakjnbdjjeccoaa
open Go.RowKit

/-- The members that are no groups of the first k rings, and of the first q of the next. -/
structure MA (R : List (List Bs)) (k q : Nat) (O : List Bs) : Prop where
  mem : ∀ x, x ∈ O ↔ isGrp x = false ∧ ((∃ j, ∃ h : j < R.length, j < k ∧ x ∈ R[j]) ∨ (∃ h : k < R.length, x ∈ (R[k]).take q))
  len : O.length ≤ (R.take k).flatten.length + q
theorem MA.start (R : List (List Bs)) : MA R 0 0 [] := ⟨fun x => by simp, by simp⟩
theorem MA.skip {R : List (List Bs)} {k q : Nat} {O : List Bs} (h : MA R k q O) (hk : k < R.length) (hq : q < (R[k]).length) (hg : isGrp (R[k])[q] = true) : MA R k (q + 1) O := by
  refine ⟨fun x => ?_, by have := h.len; omega⟩
  rw [h.mem x]
  refine and_congr_right fun hx => or_congr_right ?_
  constructor
  · rintro ⟨_, h1⟩; exact ⟨hk, by rw [List.take_succ_eq_append_getElem hq]; exact List.mem_append_left _ h1⟩
  · rintro ⟨_, h1⟩
    rw [List.take_succ_eq_append_getElem hq, List.mem_append, List.mem_singleton] at h1
    rcases h1 with h1 | h1
    · exact ⟨hk, h1⟩
    · rw [h1, hg] at hx; cases hx
theorem MA.take {R : List (List Bs)} {k q : Nat} {O : List Bs} (h : MA R k q O) (hk : k < R.length) (hq : q < (R[k]).length) (hg : isGrp (R[k])[q] = false) : MA R k (q + 1) (O ++ [(R[k])[q]]) := by
  refine ⟨fun x => ?_, by have := h.len; rw [List.length_append, List.length_singleton]; omega⟩
  rw [List.mem_append, List.mem_singleton, h.mem x]
  constructor
  · rintro (⟨h1, h2 | ⟨_, h2⟩⟩ | h1)
    · exact ⟨h1, .inl h2⟩
    · exact ⟨h1, .inr ⟨hk, by rw [List.take_succ_eq_append_getElem hq]; exact List.mem_append_left _ h2⟩⟩
    · refine ⟨by rw [h1]; exact hg, .inr ⟨hk, by rw [List.take_succ_eq_append_getElem hq, h1]; exact List.mem_append_right _ (List.mem_singleton.2 rfl)⟩⟩
  · rintro ⟨h1, h2 | ⟨_, h2⟩⟩
    · exact .inl ⟨h1, .inl h2⟩
    · rw [List.take_succ_eq_append_getElem hq, List.mem_append, List.mem_singleton] at h2
      rcases h2 with h2 | h2
      · exact .inl ⟨h1, .inr ⟨hk, h2⟩⟩
      · exact .inr h2
theorem MA.next {R : List (List Bs)} {k q : Nat} {O : List Bs} (h : MA R k q O) (hk : k < R.length) (hq : q = (R[k]).length) : MA R (k + 1) 0 O := by
  refine ⟨fun x => ?_, ?_⟩
  · rw [h.mem x]
    refine and_congr_right fun _ => ?_
    subst hq
    constructor
    · rintro (⟨j, hj, h1, h2⟩ | ⟨_, h2⟩)
      · exact .inl ⟨j, hj, by omega, h2⟩
      · rw [List.take_length] at h2
        exact .inl ⟨k, hk, by omega, h2⟩
    · rintro (⟨j, hj, h1, h2⟩ | ⟨_, h2⟩)
      · by_cases e : j = k
        · subst e; exact .inr ⟨hk, by rw [List.take_length]; exact h2⟩
        · exact .inl ⟨j, hj, by omega, h2⟩
      · simp at h2
  · have h1 := h.len
    have e : (R.take (k + 1)).flatten.length = (R.take k).flatten.length + (R[k]).length := by
      rw [List.take_succ_eq_append_getElem hk, List.flatten_append, List.length_append]
      simp
    omega
theorem flat_take_le (R : List (List Bs)) (k : Nat) : (R.take k).flatten.length ≤ R.flatten.length := by
  have : R.flatten.length = (R.take k).flatten.length + (R.drop k).flatten.length := by
    rw [← List.length_append, ← List.flatten_append, List.take_append_drop]
  omega
theorem ring_len {R : List (List Bs)} {k : Nat} (h : k < R.length) : (R[k]).length ≤ R.flatten.length := List.Sublist.length_le (List.sublist_flatten_of_mem (List.getElem_mem h))

set_option maxRecDepth 100000 in
set_option maxHeartbeats 2000000 in
theorem sMembersOf_any (a : Option Addr) (len cap : Nat) (l : List NestT) (m : Bs) (w : World) (hl : len ≤ maxLen) (hs : SlNest w a len l) (hok : ∀ q ∈ l, NestT.Ok q) (_hm : m.size ≤ 1048576) :
    Calls Try.prog 31 #[.slice a len cap, .string m] w fun e w' => (∃ v r, e = .returned v ∧ PMem l m r ∧ w'.ownsRow w.heap.size 9 1 v r.length (r.map Value.string)) ∧ Below w.heap.size w w' := by
  obtain ⟨i0, hi, hz0, hz1, hz2⟩ := info_parts info_str
  have HS := hide hs
  have HL := hide hs.1
  have qg := hide (sGoodNests_any a len cap l w hl hs hok)
  clear hs hok
  unfold maxLen at hl
  go_enter Try.func31, Try.ntmps31
  go_wp2_with fail
  refine (unhide qg).mono ?_
  rintro e w1 ⟨⟨gd, rfl, hgd⟩, hb1⟩
  have HG := hide hgd
  have B1 := hide hb1
  clear hgd hb1 qg
  cases gd
  · have FIN := hide (show PMem l m [] from ⟨List.Pairwise.nil, fun x => ⟨fun h => by simp at h, fun ⟨⟨n, hn⟩, _⟩ => by
      obtain ⟨c, hc⟩ := dist_first hn
      have := (unhide HG).2 hc.1
      cases this⟩⟩)
    clear HG
    go_wp2_with fail
    go_ret
    exact ⟨⟨_, [], rfl, unhide FIN, World.ownsRow_nil _ _ _ _⟩, unhide B1⟩
  · have GD := hide ((unhide HG).1 rfl)
    have h200 : len ≤ 200 := by rw [unhide HL]; exact (unhide GD).1
    have qr := hide (l5Rings_any a len cap l m w1 h200 ((unhide HS).keep (unhide B1)))
    clear HG
    go_wp2_with fail
    refine (unhide qr).mono ?_
    rintro e w3 ⟨⟨vR, R, sl, rfl, hR, hP⟩, hb3⟩
    obtain ⟨_, aR, capR, rfl⟩ := own_slLen hR.row
    have HP := hide hP
    have hRc := hP.cnt
    have hRl := hP.len
    have HRl := hide (show ∀ k (h : k < R.length), (R[k]).length ≤ 200 from fun k h => Nat.le_trans (ring_len h) hP.len)
    have HSz := hide (show ∀ k (h : k < R.length), ∀ x ∈ R[k], x.size ≤ maxLen from fun k h x hx => by
      obtain ⟨c, hc⟩ := dist_last ((hP.at_ k h x).1 hx)
      have := ((edG_iff (unhide GD) c x).2 hc).ok.2
      unfold maxLen; omega)
    have Q3 := hide (show QW w w3 (.slice none 0 0) [] (.slice none 0 0) [] from ⟨World.ownsRow_nil _ _ _ _, World.ownsRow_nil _ _ _ _, dj_nil _, bTr (unhide B1) hb3⟩)
    have R3 := hide (show QR w3 (.slice none 0 0) w1.heap.size (.slice aR R.length capR) R sl from ⟨hR, fun u _ => dj_nil u⟩)
    obtain ⟨base, hbase⟩ : ∃ b, b = w1.heap.size := ⟨_, rfl⟩
    rw [← hbase] at R3
    clear hR hP hb3 qr B1 hbase
    go_wp2_with fail
    go_loopw [5, 17] (fun v i wx => ∃ (k : Nat) (O : List Bs), k ≤ R.length ∧ i = .int .i64 k ∧ Hid (QW w wx v O (.slice none 0 0) []) ∧ Hid (QR wx v base (.slice aR R.length capR) R sl) ∧ Hid (MA R k 0 O)) (fun _ i _ => R.length - (Go.RowKit.intOf i).toNat)
    case atStart => exact ⟨0, [], Nat.zero_le _, rfl, Q3, R3, hide (MA.start R)⟩
    case round =>
      clear Q3 R3
      obtain ⟨k, O, hk, rfl, hQ, hR, hA⟩ := hrel
      by_cases hlt : k < R.length
      · obtain ⟨u, hu1, hu2⟩ := (unhide hR).rg.each k hlt
        obtain ⟨gR, cR, eR, _⟩ := own_some (unhide hR).rg.row (by omega)
        cases eR
        have c1 : wr.cell? ⟨gR, k, none⟩ = some u := by
          rw [(unhide hR).rg.row.cellAt k (by omega)]; exact hu1
        have zR : gR < wr.heap.size := ((unhide hR).rg.row.lt gR rfl).2
        obtain ⟨_, au, cu, eu⟩ := own_slLen hu2
        subst eu
        have HU := hide hu1
        have hkl := unhide HRl k hlt
        obtain ⟨nk, hnk⟩ : ∃ n, n = (R[k]).length := ⟨_, rfl⟩
        have HNK := hide hnk
        rw [← hnk] at c1 hkl HU
        clear hu1 hu2 hnk
        go_wp2_with fail
        go_loopw [5, 23] (fun v i wx => ∃ (q : Nat) (O : List Bs), q ≤ nk ∧ i = .int .i64 q ∧ Hid (QW w wx v O (.slice none 0 0) []) ∧ Hid (QR wx v base (.slice (some ⟨gR, 0, none⟩) R.length capR) R sl) ∧ Hid (MA R k q O)) (fun _ i _ => nk - (Go.RowKit.intOf i).toNat)
        case atStart => exact ⟨0, O, Nat.zero_le _, rfl, hQ, hR, hA⟩
        case round =>
          clear hQ hR hA c1 zR
          obtain ⟨q, O, hq, rfl, hQ, hR, hA⟩ := hrel
          by_cases hlt2 : q < nk
          · have hq' : q < (R[k]).length := by rw [← unhide HNK]; exact hlt2
            obtain ⟨u, hu1, hu2⟩ := (unhide hR).rg.each k hlt
            have eu : u = .slice au nk cu := by rw [unhide HU] at hu1; exact (Option.some.inj hu1).symm
            subst eu
            obtain ⟨au', cu', eu', hsu⟩ := own_strs hu2
            cases eu'
            obtain ⟨bU, off, rfl, hrow⟩ := hsu.at (k := q) (by rw [← unhide HNK]; exact hlt2)
            have c2 := hrow.c q hq'
            have zU := hrow.z
            have hsz := unhide HSz k hlt _ (List.getElem_mem hq')
            have qG := hide (fun w => l5Group_any (R[k])[q] hsz w)
            have eS := hide (fun h => (unhide hA).skip hlt hq' h)
            have eK := hide (fun h => (unhide hA).take hlt hq' h)
            have hO2 : O.length ≤ 1000 := by have h1 := (unhide hA).len; have h2 := flat_take_le R k; omega
            clear hrow hsu hu1 hu2 hA hsz
            generalize (R[k])[q] = A at c2 qG eS eK
            cases hg : isGrp A
            · rw [hg] at qG
              have A2 := hide (unhide eK hg)
              clear hg eS eK
              go_wp2_with (first
                | (go_at_call 42; refine (unhide qG _).mono ?_; rintro e w' ⟨rfl, rfl⟩)
                | (at_builtin; refine wpList_append_own_at _ rfl _ _ 45 rfl w.heap.size 9 i0 _ 1 16 Try.underlying45 hi hz0 hz1 hz2 rfl (by decide) _ _ _ rfl ((unhide hQ).out.alloc _) ⟨_, 0, none⟩ 1 1 [.string A] rfl rfl (cell_one_at _ _ rfl _ _) (fun x hx => by simp at hx; subst hx; rfl) (by unfold maxLen; omega) (by omega) (by have := (unhide hQ).below.size; simp; omega) ?_; intro v5 w5 hown5 hgrow5 _ hat5; have Q5 := hide ((unhide hQ).app hown5 hgrow5 hat5); have R5 := hide (QR.app (unhide hQ) (unhide hR) hgrow5 hat5); clear hown5 hgrow5 hat5))
              exact ⟨⟨q + 1, O ++ [A], by omega, by go_num, Q5, R5, A2⟩, by simp [Go.RowKit.intOf]; omega⟩
            · rw [hg] at qG
              have A2 := hide (unhide eS hg)
              clear hg eS eK
              go_wp2_with (go_at_call 42; refine (unhide qG _).mono ?_; rintro e w' ⟨rfl, rfl⟩)
              exact ⟨⟨q + 1, O, by omega, by go_num, hQ, hR, A2⟩, by simp [Go.RowKit.intOf]; omega⟩
          · have A2 := hide ((unhide hA).next hlt (by rw [← unhide HNK]; omega))
            clear hA
            go_wp2_with fail
            exact ⟨⟨k + 1, O, by omega, by go_num, hQ, hR, A2⟩, by simp [Go.RowKit.intOf]; omega⟩
      · obtain rfl : k = R.length := by omega
        have hO2 : O.length ≤ 1000 := by have h1 := (unhide hA).len; have h2 := flat_take_le R R.length; omega
        have hoo : ∀ x ∈ O, ByteArray.size x ≤ maxLen := fun x hx => by
          obtain ⟨_, ⟨j, hj, _, h2⟩ | ⟨h1, _⟩⟩ := ((unhide hA).mem x).1 hx
          · exact unhide HSz j hj x h2
          · exact absurd h1 (Nat.lt_irrefl _)
        obtain ⟨a3, cap3, e3, hs3⟩ := own_strs (unhide hQ).out
        subst e3
        have qs := hide (l5Sorted_any a3 O.length cap3 O wr (by omega) hs3 hoo)
        have B9 := hide (unhide hQ).below
        have FM := hide (show ∀ x, x ∈ O ↔ Inn l m x ∧ isGrp x = false from fun x => by
          rw [(unhide hA).mem x, (unhide HP).inn (unhide GD) x]
          constructor
          · rintro ⟨h1, ⟨j, hj, _, h2⟩ | ⟨h2, _⟩⟩
            · exact ⟨⟨j, hj, h2⟩, h1⟩
            · exact absurd h2 (Nat.lt_irrefl _)
          · rintro ⟨⟨j, hj, h2⟩, h1⟩
            exact ⟨h1, .inl ⟨j, hj, hj, h2⟩⟩)
        clear hQ hR hA hoo hs3
        go_wp2_with fail
        refine (unhide qs).mono ?_
        rintro e w2 ⟨⟨v, r, rfl, ⟨h1, h2, h3⟩, h4⟩, hb⟩
        have FIN := hide (show PMem l m r ∧ w2.ownsRow w.heap.size 9 1 v r.length (r.map Value.string) from ⟨⟨h1, fun x => by rw [h2 x, unhide FM x]⟩, own_base h4 (unhide B9).size⟩)
        have B3 := hide (bTr (unhide B9) hb)
        clear h1 h2 h3 h4 hb qs B9 FM
        go_wp2_with fail
        go_ret
        exact ⟨⟨v, r, rfl, unhide FIN⟩, unhide B3⟩
end Go.Proofs.Ytakjnbdjjeccoaa
