/- Mac on both sides. -/
import Derived.Test.YtfnjgakjainljaaDoorDCat
namespace Go.Proofs.YtfnjgakjainljaaDoor.D
set_option maxRecDepth 20000
open Go.RowKit

theorem own_some {w : World} {base : Nat} {v : Value} {l : List UInt8} (h : w.ownsRow base 5 1 v l.length (l.map byteV)) (hl : 0 < l.length) : ∃ b cap, v = .slice (some ⟨b, 0, none⟩) l.length cap ∧ b < w.heap.size ∧ l.length ≤ cap ∧ cap ≤ maxLen ∧ SlB w w.heap.size (some ⟨b, 0, none⟩) l.length l := by
  obtain ⟨a, cap, e, hs⟩ := own_sl h
  rcases h.2 with ⟨e2, e3⟩ | ⟨g, c, cur, e2, _, hh, h3, h4, _⟩
  · omega
  · rw [e2] at e
    simp only [Value.slice.injEq, true_and] at e
    obtain ⟨rfl, rfl⟩ := e
    exact ⟨g, c, e2, (show RowIs w g cur 5 from hh).lt, h3, h4, hs⟩
/-- The Mac of a key and data. -/
def mac (k d : List UInt8) : List UInt8 := dig (dig k ++ dig d)

set_option maxHeartbeats 1000000 in
theorem l2Two_any (b1 o1 n1 c1 b2 o2 n2 c2 : Nat) (l m : List UInt8) (w : World) (h1' : n1 ≤ 30000) (h2' : n2 ≤ 30000)
    (hl : SlB w w.heap.size (some ⟨b1, o1, none⟩) n1 l) (hm : SlB w w.heap.size (some ⟨b2, o2, none⟩) n2 m) :
    Calls Tryd.prog 23 #[.slice (some ⟨b1, o1, none⟩) n1 c1, .slice (some ⟨b2, o2, none⟩) n2 c2] w fun e w' => ∃ v D, Hid (D = dig (l ++ m)) ∧ e = .returned v ∧ w'.ownsRow w.heap.size 5 1 v D.length (D.map byteV) ∧ Below w.heap.size w w' := by
  obtain ⟨i0, hi, hz0, hz1, hz2⟩ := info_parts info_u8
  have el := hide hl.1
  have em := hide hm.1
  have L1 := hide (sl_news hl)
  have HM := hide hm
  clear hl hm
  go_enter Tryd.func23, Tryd.ntmps23
  go_wp2_with (first | (at_builtin; refine wpList_append_own _ rfl _ _ 22 rfl w.heap.size 5 i0 (.int .u8 0) 1 1 Tryd.underlying22 hi hz0 hz1 hz2 rfl (by decide) (.slice none 0 0) 0 [] rfl (World.ownsRow_nil _ _ _ _) ⟨b1, o1, none⟩ n1 c1 (l.map byteV) rfl (by rw [unhide el]; simp) (unhide L1) one_cell (by unfold maxLen; omega) (by omega) (Nat.le_refl _) ?_; intro v1 w1 hown1 hgrow1 _; have B1 := hide ((Below.refl w.heap.size w).grown hgrow1 (Nat.le_refl _) (fun j hj => by cases hj)); have O1 := hide hown1; have L2 := hide (sl_news ((unhide HM).keep (unhide B1))); have z1 := (unhide B1).size; clear hown1 hgrow1) | (at_builtin; refine wpList_append_own _ rfl _ _ 22 rfl w.heap.size 5 i0 (.int .u8 0) 1 1 Tryd.underlying22 hi hz0 hz1 hz2 rfl (by decide) _ _ _ rfl (unhide O1) ⟨b2, o2, none⟩ n2 c2 (m.map byteV) rfl (by rw [unhide em]; simp) (unhide L2) one_cell (by unfold maxLen; omega) (by omega) z1 ?_; intro v2 w2 hown2 hgrow2 _; have B2 := hide ((unhide B1).grown hgrow2 z1 (fun j hj => ((unhide O1).lt j hj).1)); have O2 := hide hown2; clear hown2 hgrow2))
  have O3 := hide (show w2.ownsRow w.heap.size 5 1 v2 (l ++ m).length ((l ++ m).map byteV) by
    have := unhide O2
    rw [Nat.zero_add, List.nil_append] at this
    rw [List.length_append, List.map_append, ← unhide el, ← unhide em]; exact this)
  have hlen : (l ++ m).length ≤ 60000 := by rw [List.length_append, ← unhide el, ← unhide em]; omega
  obtain ⟨a3, cap3, rfl, hs3⟩ := own_sl (unhide O3)
  have S3 := hide hs3
  clear hs3 O1 O2
  obtain ⟨N, hN⟩ : ∃ N, l ++ m = N := ⟨_, rfl⟩
  rw [hN] at S3 O3 hlen ⊢
  have HN := hide (congrArg dig hN)
  clear hN
  refine (l2Digest_any a3 N.length cap3 N _ (by omega) (unhide S3)).mono ?_
  rintro e w4 ⟨v4, D, hD, rfl, ho4, hb4⟩
  go_wp2_with fail
  go_ret
  exact ⟨_, D, hide ((unhide hD).trans (unhide HN).symm), rfl, ⟨ho4.1, ho4.2.imp_right fun ⟨g, cp, cur, h1, h2, h3⟩ => ⟨g, cp, cur, h1, Nat.le_trans (unhide B2).size h2, h3⟩⟩, bTr (unhide B2) hb4⟩

theorem own_mono {w : World} {base base' n : Nat} {v : Value} {xs : List Value} (h : w.ownsRow base 5 1 v n xs) (hb : base' ≤ base) : w.ownsRow base' 5 1 v n xs :=
  ⟨h.1, h.2.imp_right fun ⟨g, cp, cur, h1, h2, h3⟩ => ⟨g, cp, cur, h1, Nat.le_trans hb h2, h3⟩⟩

set_option maxHeartbeats 1000000 in
theorem l2Mac_any (ak ad : Option Addr) (lk ck ld cd : Nat) (k d : List UInt8) (w : World) (h1 : lk ≤ 1048576) (h2 : ld ≤ 1048576) (hk : SlB w w.heap.size ak lk k) (hd : SlB w w.heap.size ad ld d) :
    Calls Tryd.prog 13 #[.slice ak lk ck, .slice ad ld cd] w fun e w' => ∃ v D, Hid (D = mac k d) ∧ e = .returned v ∧ w'.ownsRow w.heap.size 5 1 v D.length (D.map byteV) ∧ Below w.heap.size w w' := by
  have HK := hide hk
  have HD := hide hd
  clear hk hd
  go_enter Tryd.func13, Tryd.ntmps13
  go_wp2_with fail
  refine (l2Digest_any ak lk ck k _ h1 (unhide HK)).mono ?_
  rintro e w1 ⟨v1, D1, hD1, rfl, ho1, hb1⟩
  have l1 := hide (show D1.length = 16 by rw [unhide hD1]; exact dig_len k)
  obtain ⟨b1, c1, rfl, _, _, _, hs1⟩ := own_some ho1 (by rw [unhide l1]; decide)
  have S1 := hide hs1
  have B1 := hide hb1
  clear ho1 hs1 hb1
  go_wp2_with fail
  refine (l2Digest_any ad ld cd d _ h2 (((unhide HD).keep (unhide B1)).mono (unhide B1).size)).mono ?_
  rintro e w2 ⟨v2, D2, hD2, rfl, ho2, hb2⟩
  have l2 := hide (show D2.length = 16 by rw [unhide hD2]; exact dig_len d)
  obtain ⟨b2, c2, rfl, _, _, _, hs2⟩ := own_some ho2 (by rw [unhide l2]; decide)
  have S2 := hide hs2
  have S1' := hide (((unhide S1).keep hb2).mono hb2.size)
  have B2 := hide (bTr (unhide B1) hb2)
  clear ho2 hs2 hb2 S1 B1
  go_wp2_with fail
  refine (l2Two_any b1 0 D1.length c1 b2 0 D2.length c2 D1 D2 _ (by rw [unhide l1]; decide) (by rw [unhide l2]; decide) (unhide S1') (unhide S2)).mono ?_
  rintro e w3 ⟨v3, D3, hD3, rfl, ho3, hb3⟩
  go_wp2_with fail
  go_ret
  exact ⟨_, D3, hide (by rw [unhide hD3, unhide hD1, unhide hD2]; rfl), rfl, own_mono ho3 (unhide B2).size, bTr (unhide B2) hb3⟩
/-- The Mac, or none where something is too long. -/
def macD (k d : List UInt8) : List UInt8 := if k.length ≤ 20000 ∧ d.length ≤ 20000 then mac k d else []
theorem macD_yes {k d : List UInt8} (h : k.length ≤ 20000 ∧ d.length ≤ 20000) : mac k d = macD k d := (if_pos h).symm
theorem macD_no {k d : List UInt8} (h : ¬ (k.length ≤ 20000 ∧ d.length ≤ 20000)) : [] = macD k d := (if_neg h).symm
theorem mac_len (k d : List UInt8) : (mac k d).length = 16 := dig_len _
theorem macD_len (k d : List UInt8) : (macD k d).length ≤ 16 := by
  by_cases h : k.length ≤ 20000 ∧ d.length ≤ 20000
  · have := mac_len k d
    rw [macD_yes h] at this
    omega
  · rw [← macD_no h]; simp

set_option maxHeartbeats 1000000 in
theorem iMac_any (ak ad : Option Addr) (lk ck ld cd : Nat) (k d : List UInt8) (w : World) (h1 : lk ≤ 1048576) (h2 : ld ≤ 1048576) (hk : SlB w w.heap.size ak lk k) (hd : SlB w w.heap.size ad ld d) (hM : Mults w) :
    Calls Tryd.prog 16 #[.slice ak lk ck, .slice ad ld cd] w fun e w' => ∃ v D, Hid (D = macD k d) ∧ e = .returned v ∧ w'.ownsRow w.heap.size 5 1 v D.length (D.map byteV) ∧ Below w.heap.size w w' := by
  have HK := hide hk
  have HD := hide hd
  have ek := hide hk.1
  have ed := hide hd.1
  have HM := hide hM
  have h00 := hM.1
  clear hk hd hM
  by_cases hb1 : 20000 < lk
  · have N := hide (show ¬ (k.length ≤ 20000 ∧ d.length ≤ 20000) by rw [← unhide ek, ← unhide ed]; omega)
    go_enter Tryd.func16, Tryd.ntmps16
    go_wp2_with fail
    go_ret
    exact ⟨_, [], hide (macD_no (unhide N)), rfl, World.ownsRow_nil _ _ _ _, Below.refl _ _⟩
  by_cases hb2 : 20000 < ld
  · have N := hide (show ¬ (k.length ≤ 20000 ∧ d.length ≤ 20000) by rw [← unhide ek, ← unhide ed]; omega)
    go_enter Tryd.func16, Tryd.ntmps16
    go_wp2_with fail
    go_ret
    exact ⟨_, [], hide (macD_no (unhide N)), rfl, World.ownsRow_nil _ _ _ _, Below.refl _ _⟩
  have Y := hide (show k.length ≤ 20000 ∧ d.length ≤ 20000 by rw [← unhide ek, ← unhide ed]; omega)
  have m1 := hide (show lk ≤ maxLen by unfold maxLen; omega)
  have m2 := hide (show ld ≤ maxLen by unfold maxLen; omega)
  go_enter Tryd.func16, Tryd.ntmps16
  go_wp2_with fail
  refine (iDigest_any ak lk ck k _ (unhide m1) (unhide HK) (unhide HM)).mono ?_
  rintro e w1 ⟨v1, D1, hD1, rfl, ho1, hb1⟩
  have E1 := hide ((unhide hD1).trans (digD_yes (unhide Y).1).symm)
  have l1 := hide (show D1.length = 16 by rw [unhide E1]; exact dig_len k)
  obtain ⟨b1, c1, rfl, _, _, _, hs1⟩ := own_some ho1 (by rw [unhide l1]; decide)
  have S1 := hide hs1
  have B1 := hide hb1
  clear ho1 hs1 hb1 hD1
  go_wp2_with fail
  refine (iDigest_any ad ld cd d _ (unhide m2) (((unhide HD).keep (unhide B1)).mono (unhide B1).size) ((unhide HM).keepB (unhide B1) h00)).mono ?_
  rintro e w2 ⟨v2, D2, hD2, rfl, ho2, hb2⟩
  have E2 := hide ((unhide hD2).trans (digD_yes (unhide Y).2).symm)
  have l2 := hide (show D2.length = 16 by rw [unhide E2]; exact dig_len d)
  obtain ⟨b2, c2, rfl, _, _, _, hs2⟩ := own_some ho2 (by rw [unhide l2]; decide)
  have S2 := hide hs2
  have S1' := hide (((unhide S1).keep hb2).mono hb2.size)
  have B2 := hide (bTr (unhide B1) hb2)
  clear ho2 hs2 hb2 S1 B1 hD2
  have RG := hide (RowIs.new w2 #[.slice (some ⟨b1, 0, none⟩) D1.length c1, .slice (some ⟨b2, 0, none⟩) D2.length c2] 22)
  have BA := hide (bAl (Below.refl w2.heap.size w2) (.cells #[.slice (some ⟨b1, 0, none⟩) D1.length c1, .slice (some ⟨b2, 0, none⟩) D2.length c2] 22))
  have BB := hide (bTr (unhide B2) (unhide BA))
  go_wp2_with fail
  refine (concat_any w2.heap.size b1 0 D1.length c1 b2 0 D2.length c2 D1 D2 _ (by rw [unhide l1]; decide) (by rw [unhide l1]; decide) (by rw [unhide l2]; decide) (unhide RG) (((unhide S1').keep (unhide BA)).mono (unhide BA).size) (((unhide S2).keep (unhide BA)).mono (unhide BA).size)).mono ?_
  rintro e w3 ⟨v3, D3, hD3, rfl, ho3, hb3⟩
  have l3 := hide (show D3.length = 32 by rw [unhide hD3, List.length_append, unhide l1, unhide l2])
  obtain ⟨b3, c3, rfl, _, _, _, hs3⟩ := own_some ho3 (by rw [unhide l3]; decide)
  have S3 := hide hs3
  have B3 := hide (bTr (unhide BB) hb3)
  clear ho3 hs3 hb3 BB BA RG S1' S2
  go_wp2_with fail
  refine (iDigest_any _ D3.length c3 D3 _ (by rw [unhide l3]; unfold maxLen; omega) (unhide S3) ((unhide HM).keepB (unhide B3) h00)).mono ?_
  rintro e w4 ⟨v4, D4, hD4, rfl, ho4, hb4⟩
  go_wp2_with fail
  go_ret
  refine ⟨_, D4, hide ?_, rfl, own_mono ho4 (unhide B3).size, bTr (unhide B3) hb4⟩
  rw [unhide hD4, ← digD_yes (by rw [unhide l3]; decide), unhide hD3, unhide E1, unhide E2]
  exact macD_yes (unhide Y)
end Go.Proofs.YtfnjgakjainljaaDoor.D
