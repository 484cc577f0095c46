/- laws.FnNames: its walk. -/
import Derived.Test.YtgfecakjdoccmaaXNt
namespace Go.Proofs.Ytgfecakjdoccmaa.C
open Go.RowKit

theorem iUnder_short (a1 a2 : Option Addr) (la c1 lb c2 : Nat) (l m : List PartT) (w : World) (hla : la ≤ maxLen) (hlb : lb ≤ maxLen) (h : la < lb) (h1 : SlP w a1 la l) (h2 : SlP w a2 lb m)
    (ho1 : ∀ q ∈ l, PartT.Ok q) (ho2 : ∀ q ∈ m, PartT.Ok q) :
    Calls Try.prog 13 #[.slice a1 la c1, .slice a2 lb c2] w fun e w' => e = .returned (.bool false) ∧ Below w.heap.size w w' := by
  have q1 := hide (iGoodDirName_any a1 la c1 l w hla h1 ho1)
  have q2 := hide (fun w h2 => iGoodDirName_any a2 lb c2 m w hlb h2 ho2)
  generalize dirB l = T1 at q1
  generalize dirB m = T2 at q2
  have H2 := hide h2
  clear h1 h2 ho1 ho2
  unfold maxLen at hla hlb
  have hn : ¬ (0 : Int) ≤ (la : Int) - (lb : Int) := by omega
  go_enter Try.func13, Try.ntmps13
  go_wp2_with fail
  refine (unhide q1).mono ?_
  rintro e w1 ⟨rfl, hb⟩
  have B := hide hb
  replace H2 := hide ((unhide H2).keep hb)
  clear hb q1
  cases T1
  · go_wp2_with fail
    go_ret
    exact ⟨rfl, unhide B⟩
  go_wp2_with fail
  refine (unhide q2 _ (unhide H2)).mono ?_
  rintro e w2 ⟨rfl, hb⟩
  replace B := hide (bTr (unhide B) hb)
  clear hb q2
  cases T2
  · go_wp2_with fail
    go_ret
    exact ⟨rfl, unhide B⟩
  go_wp2_with fail
  go_ret
  exact ⟨rfl, unhide B⟩
theorem read_len {s : ByteArray} {l : List PartT} {ok : Bool} (h : ReadIs s l ok) : l.length ≤ maxLen ∧ ∀ q ∈ l, PartT.Ok q := by
  rcases h with ⟨_, hd, _⟩ | ⟨_, rfl, _⟩
  · have k := dirB_parts hd
    refine ⟨by unfold maxLen; omega, fun q hq => ?_⟩
    have := partB_len (k.2 q hq)
    exact ⟨by unfold maxLen; omega, by unfold maxLen; omega⟩
  · exact ⟨by unfold maxLen; simp, fun q hq => by simp at hq⟩
theorem read_text {s : ByteArray} {l : List PartT} (h : ReadIs s l true) : nameT l = s := by
  rcases h with ⟨_, _, h⟩ | ⟨h, _⟩
  · exact h
  · cases h
theorem under_tail {l : List PartT} (h : dirB l = true) (i : Nat) (hi : i ≤ l.length) : underB l (l.drop i) = true := by
  have k := dirB_parts h
  have h2 : dirB (l.drop i) = true := by
    unfold dirB
    simp only [Bool.and_eq_true, decide_eq_true_eq, List.all_eq_true]
    exact ⟨by rw [List.length_drop]; omega, fun q hq => k.2 q (List.mem_of_mem_drop hq)⟩
  unfold underB tailB
  rw [h, h2, List.length_drop, show l.length - (l.length - i) = i by omega]
  simp

theorem code_keep {w x : World} {a : Option Addr} {len : Nat} (h : CodeAt w w.heap.size a len) (hb : Below w.heap.size w x) : CodeAt x x.heap.size a len :=
  ⟨h.1, h.2.imp_right fun ⟨blk, off, e, z, _, r⟩ => ⟨blk, off, e, Nat.lt_of_lt_of_le z hb.size, Nat.lt_of_lt_of_le z hb.size, fun i hi => by
    obtain ⟨y, y0, y1, hy⟩ := r i hi
    exact ⟨y, y0, y1, by rw [hb.cell z]; exact hy⟩⟩⟩

set_option maxRecDepth 8000 in
set_option maxHeartbeats 800000 in
theorem names_walk (a : Option Addr) (len cap : Nat) (w : World) (hc : CodeAt w w.heap.size a len) :
    Calls Try.prog 3 #[.slice a len cap] w fun e w' => e = .returned (.bool true) ∧ Below w.heap.size w w' := by
  have hl := hc.1
  unfold maxLen at hl
  have HC := hide hc
  clear hc
  by_cases h1 : (1048576 : Int) < (len : Int)
  · go_enter Try.func3, Try.ntmps3
    go_wp2_with fail
    go_ret
    exact ⟨rfl, Below.refl _ _⟩
  clear hl
  go_enter Try.func3, Try.ntmps3
  go_wp2_with fail
  refine (drawNameText_any a len cap _ (unhide HC)).mono ?_
  rintro e w1 ⟨g, c, l, rfl, ho, hc, hr, hb1⟩
  have B1 := hide hb1
  obtain ⟨n, hn⟩ : ∃ n, l.length = n := ⟨_, rfl⟩
  have l1n : 1 ≤ n := by rw [← hn]; exact ho.1
  have l9n : n ≤ 9 := by rw [← hn]; exact ho.2.1
  rw [hn] at hc ⊢
  have hlm : n ≤ maxLen := by unfold maxLen; omega
  have LM := hide hlm
  have HO := hide ho.ok
  have S1 := hide (slP_of (len := n) hn.symm hr)
  have qi := hide (fun w h => iNameText_any (some ⟨g, 0, none⟩) n c l w hlm h ho.ok)
  have qs := hide (fun w h => sNameText_any (some ⟨g, 0, none⟩) n c l w hlm h ho.ok)
  have R1 := hide hr
  have HCC := hide hc
  have HN := hide hn
  clear hb1 hlm ho hr hn
  obtain ⟨T, hT⟩ : ∃ T, nameT l = T := ⟨_, rfl⟩
  have HT := hide hT
  rw [hT] at qi qs
  clear hT
  go_wp2_with fail
  refine (unhide qi _ (unhide S1)).mono ?_
  rintro e w2 ⟨rfl, hb2⟩
  have B2 := hide (bTr (unhide B1) hb2)
  have S2 := hide ((unhide S1).keep hb2)
  have R2 := hide ((unhide R1).keep hb2)
  clear hb2 B1 S1 R1 qi
  go_wp2_with fail
  refine (unhide qs _ (unhide S2)).mono ?_
  rintro e w3 ⟨rfl, hb3⟩
  have BB := hide (bTr (unhide B2) hb3)
  have S3 := hide ((unhide S2).keep hb3)
  have R3 := hide ((unhide R2).keep hb3)
  clear hb3 B2 S2 R2 qs
  have code := hide (fun (x : World) (h : Below w.heap.size w x) => (code_keep (unhide HC) h : CodeAt x x.heap.size a len))
  clear HC
  by_cases h0 : T = ⟨#[]⟩
  · subst h0
    clear S3 R3
    go_wp2_with fail
    refine (drawReadName_any a len cap _ (unhide code _ (unhide BB))).mono ?_
    rintro e w9 ⟨⟨s, hsz, rfl⟩, hb9⟩
    have B9 := hide (bTr (unhide BB) hb9)
    clear hb9
    go_wp2_with fail
    refine (iReadName_any s _ (by omega)).mono ?_
    rintro e w10 ⟨⟨l1, ok1, v1, rfl, hR1, ho1⟩, hb10⟩
    have B10 := hide (bTr (unhide B9) hb10)
    obtain ⟨p1, q1, rfl, hs1⟩ := own_parts ho1
    have HR1 := hide hR1
    have HS1 := hide hs1
    clear hb10 hR1 hs1 ho1
    go_wp2_with fail
    refine (sReadName_any s _ (by omega)).mono ?_
    rintro e w11 ⟨⟨l2, ok2, v2, rfl, hR2, ho2⟩, hb11⟩
    have B11 := hide (bTr (unhide B10) hb11)
    obtain ⟨p2, q2, rfl, hs2⟩ := own_parts ho2
    obtain ⟨rfl, rfl⟩ := (unhide HR1).one hR2
    have HS1' := hide ((unhide HS1).keep hb11)
    have HS2 := hide hs2
    have hl1 := read_len (unhide HR1)
    have Y := hide hl1
    clear hb11 hR2 hs2 ho2 HS1
    go_wp2_with fail
    refine (zParts_any p1 p2 l1.length q1 l1.length q2 l1 l1 _ (unhide Y).1 (unhide Y).1 (unhide HS1') (unhide HS2)).mono ?_
    rintro e w12 ⟨rfl, hb12⟩
    have B12 := hide (bTr (unhide B11) hb12)
    have HS3 := hide ((unhide HS1').keep hb12)
    clear hb12 HS1' HS2
    have dt : decide (l1 = l1) = true := by simp
    rw [dt]
    cases ok1
    · go_wp2_with fail
      go_ret
      exact ⟨rfl, unhide B12⟩
    · go_wp2_with fail
      refine (iNameText_any p1 l1.length q1 l1 _ (unhide Y).1 (unhide HS3) (unhide Y).2).mono ?_
      rintro e w13 ⟨rfl, hb13⟩
      have B13 := hide (bTr (unhide B12) hb13)
      have et := read_text (unhide HR1)
      rw [et]
      clear hb13 et HR1
      go_wp2_with fail
      go_ret
      exact ⟨rfl, unhide B13⟩
  · have hne : T.toList.isEmpty = false := by
      cases hq : T.toList.isEmpty
      · rfl
      · exact absurd (ByteArray.ext (by rw [ByteArray.toList_eq] at hq; exact Array.toList_eq_nil_iff.1 (List.isEmpty_iff.1 hq))) h0
    have hd : dirB l = true := by
      apply Classical.byContradiction
      intro hn
      apply h0
      rw [← unhide HT]
      unfold nameT
      rw [if_neg hn]
    have HDD := hide hd
    have ht : T.size ≤ 1048576 := by have := name_short hd (unhide HT); omega
    have RI := hide (show ReadIs T l true from .inl ⟨rfl, hd, unhide HT⟩)
    clear hd
    go_wp2_with fail
    refine (iReadName_any T _ ht).mono ?_
    rintro e w4 ⟨⟨l1, ok1, v1, rfl, hR1, ho1⟩, hb4⟩
    obtain ⟨rfl, rfl⟩ := (unhide RI).one hR1
    obtain ⟨p1, q1, rfl, hs1⟩ := own_parts ho1
    have B4 := hide (bTr (unhide BB) hb4)
    have S4 := hide ((unhide S3).keep hb4)
    have R4 := hide ((unhide R3).keep hb4)
    have X4 := hide hs1
    clear hb4 hR1 hs1 ho1 BB S3 R3 RI
    go_wp2_with fail
    refine (zParts_any p1 (some ⟨g, 0, none⟩) l.length q1 n c l l _ (by rw [unhide HN]; exact unhide LM) (unhide LM) (unhide X4) (unhide S4)).mono ?_
    rintro e w5 ⟨rfl, hb5⟩
    have B5 := hide (bTr (unhide B4) hb5)
    have S5 := hide ((unhide S4).keep hb5)
    have R5 := hide ((unhide R4).keep hb5)
    have dt : decide (l = l) = true := by simp
    rw [dt]
    clear hb5 B4 S4 R4 X4 dt
    go_wp2_with fail
    have TL : Hid (dirB l = true) := HDD
    clear S5
    go_loopw [7] (fun i w' => ∃ (k : Nat), k ≤ n + 1 ∧ i = .int .i64 k ∧ Hid (PartRow w' g 0 l) ∧ Hid (Below w.heap.size w w')) (fun i _ => n + 1 - (intOf i).toNat)
    case atStart => exact ⟨0, Nat.zero_le _, rfl, R5, B5⟩
    case round =>
      clear R5 B5
      obtain ⟨k, hk, rfl, hR, hb⟩ := hrel
      by_cases hlt : k ≤ n
      · have ut := under_tail (unhide HDD) k (by rw [unhide HN]; exact hlt)
        have okd : ∀ q ∈ l.drop k, PartT.Ok q := fun q hq => unhide HO q (List.mem_of_mem_drop hq)
        have hx := hide (show ∀ w a2, PartRow w g 0 l → (a2 = some ⟨g, k * 2, none⟩ ∨ k = n) → SlP w a2 (n - k) (l.drop k) from fun w a2 hr h => ⟨by rw [List.length_drop, unhide HN], by
          rcases h with rfl | h
          · exact .inr ⟨g, _, rfl, by have := hr.drop k; rwa [Nat.zero_add] at this⟩
          · exact .inl (List.length_eq_zero_iff.1 (by rw [List.length_drop, unhide HN]; omega))⟩)
        have qU := hide (show ∀ w a2 c2, PartRow w g 0 l → SlP w a2 (n - k) (l.drop k) → Calls Try.prog 13 #[.slice (some ⟨g, 0, none⟩) n c, .slice a2 (n - k) c2] w fun e w' => e = .returned (.bool true) ∧ Below w.heap.size w w' from fun w a2 c2 h1 h2 => by
          have := iUnder_gen g a2 n c (n - k) c2 l (l.drop k) w (unhide HCC) (unhide LM) (Nat.le_trans (Nat.sub_le _ _) (unhide LM)) (unhide HN).symm (by rw [List.length_drop, unhide HN]) h1 h2 (unhide HO) okd
          rwa [ut] at this)
        have qV := hide (show ∀ w a2 c2, 0 < k → PartRow w g 0 l → SlP w a2 (n - k) (l.drop k) → Calls Try.prog 13 #[.slice a2 (n - k) c2, .slice (some ⟨g, 0, none⟩) n c] w fun e w' => e = .returned (.bool false) ∧ Below w.heap.size w w' from fun w a2 c2 h0 h1 h2 =>
          iUnder_short a2 (some ⟨g, 0, none⟩) (n - k) c2 n c (l.drop k) l w (Nat.le_trans (Nat.sub_le _ _) (unhide LM)) (unhide LM) (by omega) h2 (slP_of (unhide HN).symm h1) okd (unhide HO))
        clear ut okd
        by_cases h00 : k = 0
        · subst h00
          simp only [Nat.sub_zero, Nat.zero_mul] at qU hx
          clear qV
          have dj : decide ((0 : Int) < 0) = false := by simp
          go_wp2_with fail
          refine (unhide qU wr (some ⟨g, 0, none⟩) c (unhide hR) (unhide hx wr (some ⟨g, 0, none⟩) (unhide hR) (.inl rfl))).mono ?_
          rintro e w6 ⟨rfl, hb6⟩
          have R6 := hide ((unhide hR).keep hb6)
          have B6 := hide (bTr (unhide hb) hb6)
          clear hb6
          go_wp2_with fail
          exact ⟨⟨1, by omega, by go_num, R6, B6⟩, by simp [intOf]; try omega⟩
        by_cases hck : c = k
        · obtain rfl := hck
          obtain rfl : n = c := by have := unhide HCC; omega
          rw [Nat.sub_self] at hx qU qV
          have dj : decide (0 < (n : Int)) = true := by simp; omega
          have DK := hide (show 0 < n by omega)
          clear h00
          go_wp2_with fail
          refine (unhide qU wr (some ⟨g, 0, none⟩) 0 (unhide hR) (unhide hx wr (some ⟨g, 0, none⟩) (unhide hR) (.inr (by first | rfl | trivial)))).mono ?_
          rintro e w6 ⟨rfl, hb6⟩
          have R6 := hide ((unhide hR).keep hb6)
          have B6 := hide (bTr (unhide hb) hb6)
          clear hb6
          go_wp2_with fail
          refine (unhide qV w6 (some ⟨g, 0, none⟩) 0 (unhide DK) (unhide R6) (unhide hx w6 (some ⟨g, 0, none⟩) (unhide R6) (.inr (by first | rfl | trivial)))).mono ?_
          rintro e w7 ⟨rfl, hb7⟩
          have R7 := hide ((unhide R6).keep hb7)
          have B7 := hide (bTr (unhide B6) hb7)
          clear hb7
          go_wp2_with fail
          exact ⟨⟨n + 1, by omega, by go_num, R7, B7⟩, by simp [intOf]; try omega⟩
        · obtain ⟨D, rfl⟩ : ∃ D, n = k + D := ⟨n - k, by omega⟩
          rw [Nat.add_sub_cancel_left] at hx qU qV
          have dj : decide (0 < (k : Int)) = true := by simp; omega
          have dk : 0 < k := by omega
          have DK := hide dk
          clear dk h00
          go_wp2_with fail
          refine (unhide qU wr (some ⟨g, k * 2, none⟩) (c - k) (unhide hR) (unhide hx wr (some ⟨g, k * 2, none⟩) (unhide hR) (.inl rfl))).mono ?_
          rintro e w6 ⟨rfl, hb6⟩
          have R6 := hide ((unhide hR).keep hb6)
          have B6 := hide (bTr (unhide hb) hb6)
          clear hb6
          go_wp2_with fail
          refine (unhide qV w6 (some ⟨g, k * 2, none⟩) (c - k) (unhide DK) (unhide R6) (unhide hx w6 (some ⟨g, k * 2, none⟩) (unhide R6) (.inl rfl))).mono ?_
          rintro e w7 ⟨rfl, hb7⟩
          have R7 := hide ((unhide R6).keep hb7)
          have B7 := hide (bTr (unhide B6) hb7)
          clear hb7
          go_wp2_with fail
          exact ⟨⟨k + 1, by omega, by go_num, R7, B7⟩, by simp [intOf]; try omega⟩
      · have e : k = n + 1 := by omega
        go_wp2_with fail
        refine (drawReadName_any a len cap _ (unhide code _ (unhide hb))).mono ?_
        rintro e w9 ⟨⟨s, hsz, rfl⟩, hb9⟩
        have B9 := hide (bTr (unhide hb) hb9)
        clear hb9
        go_wp2_with fail
        refine (iReadName_any s _ (by omega)).mono ?_
        rintro e w10 ⟨⟨l1, ok1, v1, rfl, hR1, ho1⟩, hb10⟩
        have B10 := hide (bTr (unhide B9) hb10)
        obtain ⟨p1, q1, rfl, hs1⟩ := own_parts ho1
        have HR1 := hide hR1
        have HS1 := hide hs1
        clear hb10 hR1 hs1 ho1
        go_wp2_with fail
        refine (sReadName_any s _ (by omega)).mono ?_
        rintro e w11 ⟨⟨l2, ok2, v2, rfl, hR2, ho2⟩, hb11⟩
        have B11 := hide (bTr (unhide B10) hb11)
        obtain ⟨p2, q2, rfl, hs2⟩ := own_parts ho2
        obtain ⟨rfl, rfl⟩ := (unhide HR1).one hR2
        have HS1' := hide ((unhide HS1).keep hb11)
        have HS2 := hide hs2
        have hl1 := read_len (unhide HR1)
        have Y := hide hl1
        clear hb11 hR2 hs2 ho2 HS1
        go_wp2_with fail
        refine (zParts_any p1 p2 l1.length q1 l1.length q2 l1 l1 _ (unhide Y).1 (unhide Y).1 (unhide HS1') (unhide HS2)).mono ?_
        rintro e w12 ⟨rfl, hb12⟩
        have B12 := hide (bTr (unhide B11) hb12)
        have HS3 := hide ((unhide HS1').keep hb12)
        clear hb12 HS1' HS2
        have dt : decide (l1 = l1) = true := by simp
        rw [dt]
        cases ok1
        · go_wp2_with fail
          go_ret
          exact ⟨rfl, unhide B12⟩
        · go_wp2_with fail
          refine (iNameText_any p1 l1.length q1 l1 _ (unhide Y).1 (unhide HS3) (unhide Y).2).mono ?_
          rintro e w13 ⟨rfl, hb13⟩
          have B13 := hide (bTr (unhide B12) hb13)
          have et := read_text (unhide HR1)
          rw [et]
          clear hb13 et HR1
          go_wp2_with fail
          go_ret
          exact ⟨rfl, unhide B13⟩
end Go.Proofs.Ytgfecakjdoccmaa.C
