/- DDigL, DCat, DMac, one behind the other. -/
import Derived.Test.YtppkgcedkdeccaaDoorJ10
import Derived.Lib.AppendZeros
import Derived.Lib.SliceRun
/- spec.Digest. -/
namespace Go.Proofs.YtppkgcedkdeccaaDoor.D
set_option maxRecDepth 20000
open Go.RowKit

theorem digD_no {l : List UInt8} (h : 20000 < l.length) : [] = digD l := (if_neg (by omega)).symm
theorem digD_yes {l : List UInt8} (h : l.length ≤ 20000) : dig l = digD l := (if_pos h).symm
theorem digD_len (l : List UInt8) : (digD l).length ≤ 16 := by
  by_cases h : l.length ≤ 20000
  · have := dig_len l
    rw [digD_yes h] at this
    omega
  · rw [← digD_no (by omega)]; simp
end Go.Proofs.YtppkgcedkdeccaaDoor.D
/- slices.Grow of nil, slices.Concat of two. -/
namespace Go.Proofs.YtppkgcedkdeccaaDoor.D
set_option maxRecDepth 20000
open Go.RowKit

theorem info_eq : ∃ i, Tryd.prog.info? 5 = some i ∧ i.zero = some (.int .u8 0) ∧ i.size = 1 ∧ i.bytes = 1 := by
  obtain ⟨i, h1, h2⟩ := Option.map_eq_some_iff.1 info_u8
  simp only [Prod.mk.injEq] at h2
  exact ⟨i, h1, h2.1, h2.2.1, h2.2.2⟩
set_option maxHeartbeats 1000000 in
theorem grow_any (n : Nat) (w : World) (h0 : 0 < n) (hn : n ≤ 100000) :
    Calls Tryd.prog 97 #[.slice none 0 0, .int .i64 n] w fun e w' => ∃ v, e = .returned v ∧ w'.ownsRow w.heap.size 5 1 v 0 [] ∧ Below w.heap.size w w' := by
  obtain ⟨i, hi, hz, hs, hb⟩ := info_eq
  obtain ⟨G, hG⟩ : ∃ G, G = grownCap w n 0 5 := ⟨_, rfl⟩
  have hGn := grownCap_ge w n 0 5
  have hG63 := grownCap_le_maxLen w n 0 5 (by unfold maxLen; omega)
  have happ := fun ty => Lib.run_append_nil_zeros (P := Tryd.prog) w 22 3 ty 5 i (.int .u8 0) .i64 .i64 Tryd.underlying22 Tryd.underlying3 hi hz n h0 (by omega) (by omega) (by rw [hb]; omega)
  rw [← hG] at hGn hG63 happ
  have hsz := hide (show (Builtin.zeroCells (Value.int IntKind.u8 0).cells n ++ Builtin.zeroCells (Value.int IntKind.u8 0).cells (G - n)).size = G by
    simp [Builtin.zeroCells, Value.cells]; omega)
  unfold maxLen at hG63
  clear hG
  generalize Builtin.zeroCells (Value.int IntKind.u8 0).cells n ++ Builtin.zeroCells (Value.int IntKind.u8 0).cells (G - n) = Z at happ hsz
  go_enter Tryd.func97, Tryd.ntmps97
  go_wp2_with (at_builtin; refine Lib.wpList_append_run _ rfl _ _ _ _ rfl _ _ rfl rfl _ _ (happ _) ?_)
  go_ret
  have hr : RowIs (w.drew.alloc (.cells Z 5)) w.heap.size Z 5 := RowIs.new w.drew Z 5
  exact ⟨_, rfl, ⟨by simp, .inr ⟨w.heap.size, G, Z, rfl, Nat.le_refl _, hr, Nat.zero_le _, by unfold maxLen; omega, by rw [unhide hsz]; omega, by simp⟩⟩, ((Below.refl _ _).drew).alloc (Nat.le_refl _) _⟩

theorem sl_news {w : World} {B b off n : Nat} {l : List UInt8} (h : SlB w B (some ⟨b, off, none⟩) n l) : ∀ j u, (l.map byteV)[j]? = some u → w.cell? ((⟨b, off, none⟩ : Addr).add j) = some u := by
  intro j u hj
  have hjl : j < l.length := by
    apply Classical.byContradiction
    intro hn
    rw [List.getElem?_eq_none (by simpa using hn)] at hj
    cases hj
  obtain ⟨b', off', e', _, _, hc⟩ := h.at (k := j) (by rw [h.1]; exact hjl)
  simp only [Option.some.injEq, Addr.mk.injEq] at e'
  obtain ⟨rfl, rfl, _⟩ := e'
  have e : (⟨b, off, none⟩ : Addr).add j = ⟨b, off + j, none⟩ := by
    simp only [Addr.add]
    split
    · next h => subst h; rfl
    · rfl
  rw [e, hc j hjl]
  simp [hjl] at hj
  rw [← hj]

set_option maxHeartbeats 2000000 in
theorem concat_any (g b1 o1 n1 c1 b2 o2 n2 c2 : Nat) (l m : List UInt8) (w : World) (h1 : 0 < n1) (h1' : n1 ≤ 30000) (h2' : n2 ≤ 30000)
    (hg : RowIs w g #[.slice (some ⟨b1, o1, none⟩) n1 c1, .slice (some ⟨b2, o2, none⟩) n2 c2] 22) (hl : SlB w w.heap.size (some ⟨b1, o1, none⟩) n1 l) (hm : SlB w w.heap.size (some ⟨b2, o2, none⟩) n2 m) :
    Calls Tryd.prog 91 #[.slice (some ⟨g, 0, none⟩) 2 2] w fun e w' => ∃ v D, Hid (D = l ++ m) ∧ e = .returned v ∧ w'.ownsRow w.heap.size 5 1 v D.length (D.map byteV) ∧ Below w.heap.size w w' := by
  obtain ⟨i0, hi, hz0, hz1, hz2⟩ := info_parts info_u8
  have HG := hide hg
  have HL := hide hl
  have HM := hide hm
  have el := hide hl.1
  have em := hide hm.1
  clear hg hl hm
  have x0 := (unhide HG).at (o := 0) rfl
  have x1 := (unhide HG).at (o := 1) rfl
  go_enter Tryd.func91, Tryd.ntmps91
  go_wp2_with fail
  go_loop [3, 5, 11] (fun s _ i => ∃ k : Nat, k ≤ 2 ∧ i = .int .i64 k ∧ ∃ t : Nat, s = .int .i64 t ∧ t = if k = 0 then 0 else if k = 1 then n1 else n1 + n2) (fun _ _ i => 2 - (intOf i).toNat)
  case atStart => exact ⟨0, by omega, rfl, 0, rfl, rfl⟩
  case round =>
    obtain ⟨k, hk, rfl, t, rfl, ht⟩ := hrel
    by_cases hk2 : k < 2
    · have hc : k = 0 ∨ k = 1 := by omega
      rcases hc with rfl | rfl
      · obtain rfl : t = 0 := by simpa using ht
        clear ht
        go_wp2_with fail
        exact ⟨⟨1, by omega, by go_num, n1, by simp, by simp⟩, by simp [intOf]⟩
      · obtain rfl : t = n1 := by simpa using ht
        clear ht
        go_wp2_with fail
        exact ⟨⟨2, by omega, by go_num, t + n2, by simp, by simp⟩, by simp [intOf]⟩
    · obtain rfl : t = n1 + n2 := by
        rw [if_neg (by omega), if_neg (by omega)] at ht; exact ht
      clear ht
      have hcast := hide (show ((n1 + n2 : Nat) : Int) = (n1 : Int) + (n2 : Int) by simp)
      clear x0 x1
      go_wp2_with fail
      rw [← unhide hcast]
      refine (grow_any (n1 + n2) _ (by omega) (by omega)).mono ?_
      rintro e w1 ⟨v1, rfl, ho1, hb1⟩
      have O1 := hide ho1
      have B1 := hide hb1
      clear ho1 hb1
      go_wp2_with fail
      go_loopw [6, 8, 27] (fun v _ i w' => ∃ (k : Nat) (D : List UInt8), k ≤ 2 ∧ i = .int .i64 k ∧ D.length ≤ 60000 ∧ Hid (D = if k = 0 then [] else if k = 1 then l else l ++ m) ∧ Hid (w'.ownsRow w.heap.size 5 1 v D.length (D.map byteV)) ∧ Hid (Below w.heap.size w w')) (fun _ _ i _ => 2 - (intOf i).toNat)
      case atStart => exact ⟨0, [], by omega, rfl, by simp, hide rfl, O1, B1⟩
      case round =>
        obtain ⟨k, D, hk, rfl, hDl, hD, ho, hb⟩ := hrel
        have hzb := (unhide hb).size
        by_cases hk2 : k < 2
        · have hc : k = 0 ∨ k = 1 := by omega
          have hrow := (unhide HG).keep (unhide hb)
          have y0 : wr.cell? ⟨g, 0, none⟩ = some (.slice (some ⟨b1, o1, none⟩) n1 c1) := hrow.at rfl
          have y1 : wr.cell? ⟨g, 1, none⟩ = some (.slice (some ⟨b2, o2, none⟩) n2 c2) := hrow.at rfl
          have L1 := hide (sl_news ((unhide HL).keep (unhide hb)))
          have L2 := hide (sl_news ((unhide HM).keep (unhide hb)))
          clear hrow
          rcases hc with rfl | rfl
          · obtain rfl : D = [] := by simpa using unhide hD
            go_wp2_with (at_builtin; refine wpList_append_own _ rfl _ _ 22 rfl w.heap.size 5 i0 (.int .u8 0) 1 1 Tryd.underlying22 hi hz0 hz1 hz2 rfl (by decide) _ _ _ rfl (unhide ho) ⟨b1, o1, none⟩ n1 c1 (l.map byteV) rfl (by rw [unhide el]; simp) (unhide L1) one_cell (by unfold maxLen; simp; omega) (by simp; omega) hzb ?_; intro v' w9 hown9 hgrow9 _)
            exact ⟨⟨1, l, by omega, by go_num, by rw [← unhide el]; omega, hide (by simp), hide (by have := hown9; simp only [List.length_nil, Nat.zero_add, List.map_nil, List.nil_append] at this; rw [← unhide el]; exact this), hide ((unhide hb).grown hgrow9 hzb (fun j hj => ((unhide ho).lt j hj).1))⟩, by simp [intOf]⟩
          · obtain rfl : D = l := by simpa using unhide hD
            go_wp2_with (at_builtin; refine wpList_append_own _ rfl _ _ 22 rfl w.heap.size 5 i0 (.int .u8 0) 1 1 Tryd.underlying22 hi hz0 hz1 hz2 rfl (by decide) _ _ _ rfl (unhide ho) ⟨b2, o2, none⟩ n2 c2 (m.map byteV) rfl (by rw [unhide em]; simp) (unhide L2) one_cell (by unfold maxLen; omega) (by omega) hzb ?_; intro v' w9 hown9 hgrow9 _)
            exact ⟨⟨2, D ++ m, by omega, by go_num, by rw [List.length_append, ← unhide el, ← unhide em]; omega, hide (by simp), hide (by rw [List.length_append, List.map_append, ← unhide em]; exact hown9), hide ((unhide hb).grown hgrow9 hzb (fun j hj => ((unhide ho).lt j hj).1))⟩, by simp [intOf]⟩
        · have E := hide (show D = l ++ m by have := unhide hD; rwa [if_neg (by omega), if_neg (by omega)] at this)
          clear hD
          go_wp2_with fail
          go_ret
          exact ⟨_, D, E, rfl, unhide ho, unhide hb⟩
end Go.Proofs.YtppkgcedkdeccaaDoor.D
/- Mac on both sides. -/
namespace Go.Proofs.YtppkgcedkdeccaaDoor.D
set_option maxRecDepth 20000
open Go.RowKit

theorem own_some {w : World} {base : Nat} {v : Value} {l : List UInt8} (h : w.ownsRow base 5 1 v l.length (l.map byteV)) (hl : 0 < l.length) : ∃ b cap, v = .slice (some ⟨b, 0, none⟩) l.length cap ∧ b < w.heap.size ∧ l.length ≤ cap ∧ cap ≤ maxLen ∧ SlB w w.heap.size (some ⟨b, 0, none⟩) l.length l := by
  obtain ⟨a, cap, e, hs⟩ := own_sl h
  rcases h.2 with ⟨e2, e3⟩ | ⟨g, c, cur, e2, _, hh, h3, h4, _⟩
  · omega
  · rw [e2] at e
    simp only [Value.slice.injEq, true_and] at e
    obtain ⟨rfl, rfl⟩ := e
    exact ⟨g, c, e2, (show RowIs w g cur 5 from hh).lt, h3, h4, hs⟩
/-- The Mac of a key and data. -/
def mac (k d : List UInt8) : List UInt8 := dig (dig k ++ dig d)

set_option maxHeartbeats 1000000 in
theorem l2Two_any (b1 o1 n1 c1 b2 o2 n2 c2 : Nat) (l m : List UInt8) (w : World) (h1' : n1 ≤ 30000) (h2' : n2 ≤ 30000)
    (hl : SlB w w.heap.size (some ⟨b1, o1, none⟩) n1 l) (hm : SlB w w.heap.size (some ⟨b2, o2, none⟩) n2 m) :
    Calls Tryd.prog 79 #[.slice (some ⟨b1, o1, none⟩) n1 c1, .slice (some ⟨b2, o2, none⟩) n2 c2] w fun e w' => ∃ v D, Hid (D = dig (l ++ m)) ∧ e = .returned v ∧ w'.ownsRow w.heap.size 5 1 v D.length (D.map byteV) ∧ Below w.heap.size w w' := by
  obtain ⟨i0, hi, hz0, hz1, hz2⟩ := info_parts info_u8
  have el := hide hl.1
  have em := hide hm.1
  have L1 := hide (sl_news hl)
  have HM := hide hm
  clear hl hm
  go_enter Tryd.func79, Tryd.ntmps79
  go_wp2_with (first | (at_builtin; refine wpList_append_own _ rfl _ _ 22 rfl w.heap.size 5 i0 (.int .u8 0) 1 1 Tryd.underlying22 hi hz0 hz1 hz2 rfl (by decide) (.slice none 0 0) 0 [] rfl (World.ownsRow_nil _ _ _ _) ⟨b1, o1, none⟩ n1 c1 (l.map byteV) rfl (by rw [unhide el]; simp) (unhide L1) one_cell (by unfold maxLen; omega) (by omega) (Nat.le_refl _) ?_; intro v1 w1 hown1 hgrow1 _; have B1 := hide ((Below.refl w.heap.size w).grown hgrow1 (Nat.le_refl _) (fun j hj => by cases hj)); have O1 := hide hown1; have L2 := hide (sl_news ((unhide HM).keep (unhide B1))); have z1 := (unhide B1).size; clear hown1 hgrow1) | (at_builtin; refine wpList_append_own _ rfl _ _ 22 rfl w.heap.size 5 i0 (.int .u8 0) 1 1 Tryd.underlying22 hi hz0 hz1 hz2 rfl (by decide) _ _ _ rfl (unhide O1) ⟨b2, o2, none⟩ n2 c2 (m.map byteV) rfl (by rw [unhide em]; simp) (unhide L2) one_cell (by unfold maxLen; omega) (by omega) z1 ?_; intro v2 w2 hown2 hgrow2 _; have B2 := hide ((unhide B1).grown hgrow2 z1 (fun j hj => ((unhide O1).lt j hj).1)); have O2 := hide hown2; clear hown2 hgrow2))
  have O3 := hide (show w2.ownsRow w.heap.size 5 1 v2 (l ++ m).length ((l ++ m).map byteV) by
    have := unhide O2
    rw [Nat.zero_add, List.nil_append] at this
    rw [List.length_append, List.map_append, ← unhide el, ← unhide em]; exact this)
  have hlen : (l ++ m).length ≤ 60000 := by rw [List.length_append, ← unhide el, ← unhide em]; omega
  obtain ⟨a3, cap3, rfl, hs3⟩ := own_sl (unhide O3)
  have S3 := hide hs3
  clear hs3 O1 O2
  obtain ⟨N, hN⟩ : ∃ N, l ++ m = N := ⟨_, rfl⟩
  rw [hN] at S3 O3 hlen ⊢
  have HN := hide (congrArg dig hN)
  clear hN
  refine (l2Digest_any a3 N.length cap3 N _ (by omega) (unhide S3)).mono ?_
  rintro e w4 ⟨v4, D, hD, rfl, ho4, hb4⟩
  go_wp2_with fail
  go_ret
  exact ⟨_, D, hide ((unhide hD).trans (unhide HN).symm), rfl, ⟨ho4.1, ho4.2.imp_right fun ⟨g, cp, cur, h1, h2, h3⟩ => ⟨g, cp, cur, h1, Nat.le_trans (unhide B2).size h2, h3⟩⟩, bTr (unhide B2) hb4⟩

theorem own_mono {w : World} {base base' n : Nat} {v : Value} {xs : List Value} (h : w.ownsRow base 5 1 v n xs) (hb : base' ≤ base) : w.ownsRow base' 5 1 v n xs :=
  ⟨h.1, h.2.imp_right fun ⟨g, cp, cur, h1, h2, h3⟩ => ⟨g, cp, cur, h1, Nat.le_trans hb h2, h3⟩⟩

set_option maxHeartbeats 1000000 in
theorem l2Mac_any (ak ad : Option Addr) (lk ck ld cd : Nat) (k d : List UInt8) (w : World) (h1 : lk ≤ 1048576) (h2 : ld ≤ 1048576) (hk : SlB w w.heap.size ak lk k) (hd : SlB w w.heap.size ad ld d) :
    Calls Tryd.prog 73 #[.slice ak lk ck, .slice ad ld cd] w fun e w' => ∃ v D, Hid (D = mac k d) ∧ e = .returned v ∧ w'.ownsRow w.heap.size 5 1 v D.length (D.map byteV) ∧ Below w.heap.size w w' := by
  have HK := hide hk
  have HD := hide hd
  clear hk hd
  go_enter Tryd.func73, Tryd.ntmps73
  go_wp2_with fail
  refine (l2Digest_any ak lk ck k _ h1 (unhide HK)).mono ?_
  rintro e w1 ⟨v1, D1, hD1, rfl, ho1, hb1⟩
  have l1 := hide (show D1.length = 16 by rw [unhide hD1]; exact dig_len k)
  obtain ⟨b1, c1, rfl, _, _, _, hs1⟩ := own_some ho1 (by rw [unhide l1]; decide)
  have S1 := hide hs1
  have B1 := hide hb1
  clear ho1 hs1 hb1
  go_wp2_with fail
  refine (l2Digest_any ad ld cd d _ h2 (((unhide HD).keep (unhide B1)).mono (unhide B1).size)).mono ?_
  rintro e w2 ⟨v2, D2, hD2, rfl, ho2, hb2⟩
  have l2 := hide (show D2.length = 16 by rw [unhide hD2]; exact dig_len d)
  obtain ⟨b2, c2, rfl, _, _, _, hs2⟩ := own_some ho2 (by rw [unhide l2]; decide)
  have S2 := hide hs2
  have S1' := hide (((unhide S1).keep hb2).mono hb2.size)
  have B2 := hide (bTr (unhide B1) hb2)
  clear ho2 hs2 hb2 S1 B1
  go_wp2_with fail
  refine (l2Two_any b1 0 D1.length c1 b2 0 D2.length c2 D1 D2 _ (by rw [unhide l1]; decide) (by rw [unhide l2]; decide) (unhide S1') (unhide S2)).mono ?_
  rintro e w3 ⟨v3, D3, hD3, rfl, ho3, hb3⟩
  go_wp2_with fail
  go_ret
  exact ⟨_, D3, hide (by rw [unhide hD3, unhide hD1, unhide hD2]; rfl), rfl, own_mono ho3 (unhide B2).size, bTr (unhide B2) hb3⟩
/-- The Mac, or none where something is too long. -/
def macD (k d : List UInt8) : List UInt8 := if k.length ≤ 20000 ∧ d.length ≤ 20000 then mac k d else []
theorem macD_yes {k d : List UInt8} (h : k.length ≤ 20000 ∧ d.length ≤ 20000) : mac k d = macD k d := (if_pos h).symm
theorem macD_no {k d : List UInt8} (h : ¬ (k.length ≤ 20000 ∧ d.length ≤ 20000)) : [] = macD k d := (if_neg h).symm
theorem mac_len (k d : List UInt8) : (mac k d).length = 16 := dig_len _
theorem macD_len (k d : List UInt8) : (macD k d).length ≤ 16 := by
  by_cases h : k.length ≤ 20000 ∧ d.length ≤ 20000
  · have := mac_len k d
    rw [macD_yes h] at this
    omega
  · rw [← macD_no h]; simp

set_option maxHeartbeats 1000000 in
theorem iMac_any (ak ad : Option Addr) (lk ck ld cd : Nat) (k d : List UInt8) (w : World) (h1 : lk ≤ 1048576) (h2 : ld ≤ 1048576) (hk : SlB w w.heap.size ak lk k) (hd : SlB w w.heap.size ad ld d) (hM : Mults w) :
    Calls Tryd.prog 84 #[.slice ak lk ck, .slice ad ld cd] w fun e w' => ∃ v D, Hid (D = macD k d) ∧ e = .returned v ∧ w'.ownsRow w.heap.size 5 1 v D.length (D.map byteV) ∧ Below w.heap.size w w' := by
  have HK := hide hk
  have HD := hide hd
  have ek := hide hk.1
  have ed := hide hd.1
  have HM := hide hM
  have h00 := hM.1
  clear hk hd hM
  by_cases hb1 : 20000 < lk
  · have N := hide (show ¬ (k.length ≤ 20000 ∧ d.length ≤ 20000) by rw [← unhide ek, ← unhide ed]; omega)
    go_enter Tryd.func84, Tryd.ntmps84
    go_wp2_with fail
    go_ret
    exact ⟨_, [], hide (macD_no (unhide N)), rfl, World.ownsRow_nil _ _ _ _, Below.refl _ _⟩
  by_cases hb2 : 20000 < ld
  · have N := hide (show ¬ (k.length ≤ 20000 ∧ d.length ≤ 20000) by rw [← unhide ek, ← unhide ed]; omega)
    go_enter Tryd.func84, Tryd.ntmps84
    go_wp2_with fail
    go_ret
    exact ⟨_, [], hide (macD_no (unhide N)), rfl, World.ownsRow_nil _ _ _ _, Below.refl _ _⟩
  have Y := hide (show k.length ≤ 20000 ∧ d.length ≤ 20000 by rw [← unhide ek, ← unhide ed]; omega)
  have m1 := hide (show lk ≤ maxLen by unfold maxLen; omega)
  have m2 := hide (show ld ≤ maxLen by unfold maxLen; omega)
  go_enter Tryd.func84, Tryd.ntmps84
  go_wp2_with fail
  refine (iDigest_any ak lk ck k _ (unhide m1) (unhide HK) (unhide HM)).mono ?_
  rintro e w1 ⟨v1, D1, hD1, rfl, ho1, hb1⟩
  have E1 := hide ((unhide hD1).trans (digD_yes (unhide Y).1).symm)
  have l1 := hide (show D1.length = 16 by rw [unhide E1]; exact dig_len k)
  obtain ⟨b1, c1, rfl, _, _, _, hs1⟩ := own_some ho1 (by rw [unhide l1]; decide)
  have S1 := hide hs1
  have B1 := hide hb1
  clear ho1 hs1 hb1 hD1
  go_wp2_with fail
  refine (iDigest_any ad ld cd d _ (unhide m2) (((unhide HD).keep (unhide B1)).mono (unhide B1).size) ((unhide HM).keepB (unhide B1) h00)).mono ?_
  rintro e w2 ⟨v2, D2, hD2, rfl, ho2, hb2⟩
  have E2 := hide ((unhide hD2).trans (digD_yes (unhide Y).2).symm)
  have l2 := hide (show D2.length = 16 by rw [unhide E2]; exact dig_len d)
  obtain ⟨b2, c2, rfl, _, _, _, hs2⟩ := own_some ho2 (by rw [unhide l2]; decide)
  have S2 := hide hs2
  have S1' := hide (((unhide S1).keep hb2).mono hb2.size)
  have B2 := hide (bTr (unhide B1) hb2)
  clear ho2 hs2 hb2 S1 B1 hD2
  have RG := hide (RowIs.new w2 #[.slice (some ⟨b1, 0, none⟩) D1.length c1, .slice (some ⟨b2, 0, none⟩) D2.length c2] 22)
  have BA := hide (bAl (Below.refl w2.heap.size w2) (.cells #[.slice (some ⟨b1, 0, none⟩) D1.length c1, .slice (some ⟨b2, 0, none⟩) D2.length c2] 22))
  have BB := hide (bTr (unhide B2) (unhide BA))
  go_wp2_with fail
  refine (concat_any w2.heap.size b1 0 D1.length c1 b2 0 D2.length c2 D1 D2 _ (by rw [unhide l1]; decide) (by rw [unhide l1]; decide) (by rw [unhide l2]; decide) (unhide RG) (((unhide S1').keep (unhide BA)).mono (unhide BA).size) (((unhide S2).keep (unhide BA)).mono (unhide BA).size)).mono ?_
  rintro e w3 ⟨v3, D3, hD3, rfl, ho3, hb3⟩
  have l3 := hide (show D3.length = 32 by rw [unhide hD3, List.length_append, unhide l1, unhide l2])
  obtain ⟨b3, c3, rfl, _, _, _, hs3⟩ := own_some ho3 (by rw [unhide l3]; decide)
  have S3 := hide hs3
  have B3 := hide (bTr (unhide BB) hb3)
  clear ho3 hs3 hb3 BB BA RG S1' S2
  go_wp2_with fail
  refine (iDigest_any _ D3.length c3 D3 _ (by rw [unhide l3]; unfold maxLen; omega) (unhide S3) ((unhide HM).keepB (unhide B3) h00)).mono ?_
  rintro e w4 ⟨v4, D4, hD4, rfl, ho4, hb4⟩
  go_wp2_with fail
  go_ret
  refine ⟨_, D4, hide ?_, rfl, own_mono ho4 (unhide B3).size, bTr (unhide B3) hb4⟩
  rw [unhide hD4, ← digD_yes (by rw [unhide l3]; decide), unhide hD3, unhide E1, unhide E2]
  exact macD_yes (unhide Y)
end Go.Proofs.YtppkgcedkdeccaaDoor.D
