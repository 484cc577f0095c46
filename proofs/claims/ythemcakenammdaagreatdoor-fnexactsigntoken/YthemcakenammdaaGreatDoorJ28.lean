/- DMac, DSgn, one behind the other. -/
import Derived.Test.YthemcakenammdaaGreatDoorJ27
/- Mac on both sides. -/
namespace Go.Proofs.YthemcakenammdaaGreatDoor.D
set_option maxRecDepth 20000
open Go.RowKit

theorem own_some {w : World} {base : Nat} {v : Value} {l : List UInt8} (h : w.ownsRow base 5 1 v l.length (l.map byteV)) (hl : 0 < l.length) : ∃ b cap, v = .slice (some ⟨b, 0, none⟩) l.length cap ∧ b < w.heap.size ∧ l.length ≤ cap ∧ cap ≤ maxLen ∧ SlB w w.heap.size (some ⟨b, 0, none⟩) l.length l := by
  obtain ⟨a, cap, e, hs⟩ := own_sl h
  rcases h.2 with ⟨e2, e3⟩ | ⟨g, c, cur, e2, _, hh, h3, h4, _⟩
  · omega
  · rw [e2] at e
    simp only [Value.slice.injEq, true_and] at e
    obtain ⟨rfl, rfl⟩ := e
    exact ⟨g, c, e2, (show RowIs w g cur 5 from hh).lt, h3, h4, hs⟩
/-- The Mac of a key and data. -/
def mac (k d : List UInt8) : List UInt8 := dig (dig k ++ dig d)

set_option maxHeartbeats 1000000 in
theorem l2Two_any (b1 o1 n1 c1 b2 o2 n2 c2 : Nat) (l m : List UInt8) (w : World) (h1' : n1 ≤ 30000) (h2' : n2 ≤ 30000)
    (hl : SlB w w.heap.size (some ⟨b1, o1, none⟩) n1 l) (hm : SlB w w.heap.size (some ⟨b2, o2, none⟩) n2 m) :
    Calls Tryz.prog 64 #[.slice (some ⟨b1, o1, none⟩) n1 c1, .slice (some ⟨b2, o2, none⟩) n2 c2] w fun e w' => ∃ v D, Hid (D = dig (l ++ m)) ∧ e = .returned v ∧ w'.ownsRow w.heap.size 5 1 v D.length (D.map byteV) ∧ Below w.heap.size w w' := by
  obtain ⟨i0, hi, hz0, hz1, hz2⟩ := info_parts info_u8
  have el := hide hl.1
  have em := hide hm.1
  have L1 := hide (sl_news hl)
  have HM := hide hm
  clear hl hm
  go_enter Tryz.func64, Tryz.ntmps64
  go_wp2_with (first | (at_builtin; refine wpList_append_own _ rfl _ _ 44 rfl w.heap.size 5 i0 (.int .u8 0) 1 1 Tryz.underlying44 hi hz0 hz1 hz2 rfl (by decide) (.slice none 0 0) 0 [] rfl (World.ownsRow_nil _ _ _ _) ⟨b1, o1, none⟩ n1 c1 (l.map byteV) rfl (by rw [unhide el]; simp) (unhide L1) one_cell (by unfold maxLen; omega) (by omega) (Nat.le_refl _) ?_; intro v1 w1 hown1 hgrow1 _; have B1 := hide ((Below.refl w.heap.size w).grown hgrow1 (Nat.le_refl _) (fun j hj => by cases hj)); have O1 := hide hown1; have L2 := hide (sl_news ((unhide HM).keep (unhide B1))); have z1 := (unhide B1).size; clear hown1 hgrow1) | (at_builtin; refine wpList_append_own _ rfl _ _ 44 rfl w.heap.size 5 i0 (.int .u8 0) 1 1 Tryz.underlying44 hi hz0 hz1 hz2 rfl (by decide) _ _ _ rfl (unhide O1) ⟨b2, o2, none⟩ n2 c2 (m.map byteV) rfl (by rw [unhide em]; simp) (unhide L2) one_cell (by unfold maxLen; omega) (by omega) z1 ?_; intro v2 w2 hown2 hgrow2 _; have B2 := hide ((unhide B1).grown hgrow2 z1 (fun j hj => ((unhide O1).lt j hj).1)); have O2 := hide hown2; clear hown2 hgrow2))
  have O3 := hide (show w2.ownsRow w.heap.size 5 1 v2 (l ++ m).length ((l ++ m).map byteV) by
    have := unhide O2
    rw [Nat.zero_add, List.nil_append] at this
    rw [List.length_append, List.map_append, ← unhide el, ← unhide em]; exact this)
  have hlen : (l ++ m).length ≤ 60000 := by rw [List.length_append, ← unhide el, ← unhide em]; omega
  obtain ⟨a3, cap3, rfl, hs3⟩ := own_sl (unhide O3)
  have S3 := hide hs3
  clear hs3 O1 O2
  obtain ⟨N, hN⟩ : ∃ N, l ++ m = N := ⟨_, rfl⟩
  rw [hN] at S3 O3 hlen ⊢
  have HN := hide (congrArg dig hN)
  clear hN
  refine (l2Digest_any a3 N.length cap3 N _ (by omega) (unhide S3)).mono ?_
  rintro e w4 ⟨v4, D, hD, rfl, ho4, hb4⟩
  go_wp2_with fail
  go_ret
  exact ⟨_, D, hide ((unhide hD).trans (unhide HN).symm), rfl, ⟨ho4.1, ho4.2.imp_right fun ⟨g, cp, cur, h1, h2, h3⟩ => ⟨g, cp, cur, h1, Nat.le_trans (unhide B2).size h2, h3⟩⟩, bTr (unhide B2) hb4⟩

theorem own_mono {w : World} {base base' n : Nat} {v : Value} {xs : List Value} (h : w.ownsRow base 5 1 v n xs) (hb : base' ≤ base) : w.ownsRow base' 5 1 v n xs :=
  ⟨h.1, h.2.imp_right fun ⟨g, cp, cur, h1, h2, h3⟩ => ⟨g, cp, cur, h1, Nat.le_trans hb h2, h3⟩⟩

set_option maxHeartbeats 1000000 in
theorem l2Mac_any (ak ad : Option Addr) (lk ck ld cd : Nat) (k d : List UInt8) (w : World) (h1 : lk ≤ 1048576) (h2 : ld ≤ 1048576) (hk : SlB w w.heap.size ak lk k) (hd : SlB w w.heap.size ad ld d) :
    Calls Tryz.prog 40 #[.slice ak lk ck, .slice ad ld cd] w fun e w' => ∃ v D, Hid (D = mac k d) ∧ e = .returned v ∧ w'.ownsRow w.heap.size 5 1 v D.length (D.map byteV) ∧ Below w.heap.size w w' := by
  have HK := hide hk
  have HD := hide hd
  clear hk hd
  go_enter Tryz.func40, Tryz.ntmps40
  go_wp2_with fail
  refine (l2Digest_any ak lk ck k _ h1 (unhide HK)).mono ?_
  rintro e w1 ⟨v1, D1, hD1, rfl, ho1, hb1⟩
  have l1 := hide (show D1.length = 16 by rw [unhide hD1]; exact dig_len k)
  obtain ⟨b1, c1, rfl, _, _, _, hs1⟩ := own_some ho1 (by rw [unhide l1]; decide)
  have S1 := hide hs1
  have B1 := hide hb1
  clear ho1 hs1 hb1
  go_wp2_with fail
  refine (l2Digest_any ad ld cd d _ h2 (((unhide HD).keep (unhide B1)).mono (unhide B1).size)).mono ?_
  rintro e w2 ⟨v2, D2, hD2, rfl, ho2, hb2⟩
  have l2 := hide (show D2.length = 16 by rw [unhide hD2]; exact dig_len d)
  obtain ⟨b2, c2, rfl, _, _, _, hs2⟩ := own_some ho2 (by rw [unhide l2]; decide)
  have S2 := hide hs2
  have S1' := hide (((unhide S1).keep hb2).mono hb2.size)
  have B2 := hide (bTr (unhide B1) hb2)
  clear ho2 hs2 hb2 S1 B1
  go_wp2_with fail
  refine (l2Two_any b1 0 D1.length c1 b2 0 D2.length c2 D1 D2 _ (by rw [unhide l1]; decide) (by rw [unhide l2]; decide) (unhide S1') (unhide S2)).mono ?_
  rintro e w3 ⟨v3, D3, hD3, rfl, ho3, hb3⟩
  go_wp2_with fail
  go_ret
  exact ⟨_, D3, hide (by rw [unhide hD3, unhide hD1, unhide hD2]; rfl), rfl, own_mono ho3 (unhide B2).size, bTr (unhide B2) hb3⟩
/-- The Mac, or none where something is too long. -/
def macD (k d : List UInt8) : List UInt8 := if k.length ≤ 20000 ∧ d.length ≤ 20000 then mac k d else []
theorem macD_yes {k d : List UInt8} (h : k.length ≤ 20000 ∧ d.length ≤ 20000) : mac k d = macD k d := (if_pos h).symm
theorem macD_no {k d : List UInt8} (h : ¬ (k.length ≤ 20000 ∧ d.length ≤ 20000)) : [] = macD k d := (if_neg h).symm
theorem mac_len (k d : List UInt8) : (mac k d).length = 16 := dig_len _
theorem macD_len (k d : List UInt8) : (macD k d).length ≤ 16 := by
  by_cases h : k.length ≤ 20000 ∧ d.length ≤ 20000
  · have := mac_len k d
    rw [macD_yes h] at this
    omega
  · rw [← macD_no h]; simp

set_option maxHeartbeats 1000000 in
theorem iMac_any (ak ad : Option Addr) (lk ck ld cd : Nat) (k d : List UInt8) (w : World) (h1 : lk ≤ 1048576) (h2 : ld ≤ 1048576) (hk : SlB w w.heap.size ak lk k) (hd : SlB w w.heap.size ad ld d) (hM : Mults w) :
    Calls Tryz.prog 52 #[.slice ak lk ck, .slice ad ld cd] w fun e w' => ∃ v D, Hid (D = macD k d) ∧ e = .returned v ∧ w'.ownsRow w.heap.size 5 1 v D.length (D.map byteV) ∧ Below w.heap.size w w' := by
  have HK := hide hk
  have HD := hide hd
  have ek := hide hk.1
  have ed := hide hd.1
  have HM := hide hM
  have h00 := hM.1
  clear hk hd hM
  by_cases hb1 : 20000 < lk
  · have N := hide (show ¬ (k.length ≤ 20000 ∧ d.length ≤ 20000) by rw [← unhide ek, ← unhide ed]; omega)
    go_enter Tryz.func52, Tryz.ntmps52
    go_wp2_with fail
    go_ret
    exact ⟨_, [], hide (macD_no (unhide N)), rfl, World.ownsRow_nil _ _ _ _, Below.refl _ _⟩
  by_cases hb2 : 20000 < ld
  · have N := hide (show ¬ (k.length ≤ 20000 ∧ d.length ≤ 20000) by rw [← unhide ek, ← unhide ed]; omega)
    go_enter Tryz.func52, Tryz.ntmps52
    go_wp2_with fail
    go_ret
    exact ⟨_, [], hide (macD_no (unhide N)), rfl, World.ownsRow_nil _ _ _ _, Below.refl _ _⟩
  have Y := hide (show k.length ≤ 20000 ∧ d.length ≤ 20000 by rw [← unhide ek, ← unhide ed]; omega)
  have m1 := hide (show lk ≤ maxLen by unfold maxLen; omega)
  have m2 := hide (show ld ≤ maxLen by unfold maxLen; omega)
  go_enter Tryz.func52, Tryz.ntmps52
  go_wp2_with fail
  refine (iDigest_any ak lk ck k _ (unhide m1) (unhide HK) (unhide HM)).mono ?_
  rintro e w1 ⟨v1, D1, hD1, rfl, ho1, hb1⟩
  have E1 := hide ((unhide hD1).trans (digD_yes (unhide Y).1).symm)
  have l1 := hide (show D1.length = 16 by rw [unhide E1]; exact dig_len k)
  obtain ⟨b1, c1, rfl, _, _, _, hs1⟩ := own_some ho1 (by rw [unhide l1]; decide)
  have S1 := hide hs1
  have B1 := hide hb1
  clear ho1 hs1 hb1 hD1
  go_wp2_with fail
  refine (iDigest_any ad ld cd d _ (unhide m2) (((unhide HD).keep (unhide B1)).mono (unhide B1).size) ((unhide HM).keepB (unhide B1) h00)).mono ?_
  rintro e w2 ⟨v2, D2, hD2, rfl, ho2, hb2⟩
  have E2 := hide ((unhide hD2).trans (digD_yes (unhide Y).2).symm)
  have l2 := hide (show D2.length = 16 by rw [unhide E2]; exact dig_len d)
  obtain ⟨b2, c2, rfl, _, _, _, hs2⟩ := own_some ho2 (by rw [unhide l2]; decide)
  have S2 := hide hs2
  have S1' := hide (((unhide S1).keep hb2).mono hb2.size)
  have B2 := hide (bTr (unhide B1) hb2)
  clear ho2 hs2 hb2 S1 B1 hD2
  have RG := hide (RowIs.new w2 #[.slice (some ⟨b1, 0, none⟩) D1.length c1, .slice (some ⟨b2, 0, none⟩) D2.length c2] 44)
  have BA := hide (bAl (Below.refl w2.heap.size w2) (.cells #[.slice (some ⟨b1, 0, none⟩) D1.length c1, .slice (some ⟨b2, 0, none⟩) D2.length c2] 44))
  have BB := hide (bTr (unhide B2) (unhide BA))
  go_wp2_with fail
  refine (concat_any w2.heap.size b1 0 D1.length c1 b2 0 D2.length c2 D1 D2 _ (by rw [unhide l1]; decide) (by rw [unhide l1]; decide) (by rw [unhide l2]; decide) (unhide RG) (((unhide S1').keep (unhide BA)).mono (unhide BA).size) (((unhide S2).keep (unhide BA)).mono (unhide BA).size)).mono ?_
  rintro e w3 ⟨v3, D3, hD3, rfl, ho3, hb3⟩
  have l3 := hide (show D3.length = 32 by rw [unhide hD3, List.length_append, unhide l1, unhide l2])
  obtain ⟨b3, c3, rfl, _, _, _, hs3⟩ := own_some ho3 (by rw [unhide l3]; decide)
  have S3 := hide hs3
  have B3 := hide (bTr (unhide BB) hb3)
  clear ho3 hs3 hb3 BB BA RG S1' S2
  go_wp2_with fail
  refine (iDigest_any _ D3.length c3 D3 _ (by rw [unhide l3]; unfold maxLen; omega) (unhide S3) ((unhide HM).keepB (unhide B3) h00)).mono ?_
  rintro e w4 ⟨v4, D4, hD4, rfl, ho4, hb4⟩
  go_wp2_with fail
  go_ret
  refine ⟨_, D4, hide ?_, rfl, own_mono ho4 (unhide B3).size, bTr (unhide B3) hb4⟩
  rw [unhide hD4, ← digD_yes (by rw [unhide l3]; decide), unhide hD3, unhide E1, unhide E2]
  exact macD_yes (unhide Y)
end Go.Proofs.YthemcakenammdaaGreatDoor.D
/- Numbers of digests; what ties R to the data; signatures. -/
namespace Go.Proofs.YthemcakenammdaaGreatDoor.D
set_option maxRecDepth 20000
open Go.RowKit

/-- The number of the first t bytes, the lowest first. -/
def numT (D : List UInt8) : Nat → Nat
  | 0 => 0
  | t + 1 => numT D t + (D.getD t 0).toNat * 2 ^ (8 * t)
def num (D : List UInt8) : Nat := numT D 4
theorem numT_lt (D : List UInt8) (t : Nat) : numT D t < 2 ^ (8 * t) := by
  induction t with
  | zero => simp [numT]
  | succ t ih =>
    have hu := (D.getD t 0).toNat_lt
    have e : 2 ^ (8 * (t + 1)) = 256 * 2 ^ (8 * t) := by rw [Nat.mul_add, Nat.pow_add, Nat.mul_comm]
    simp only [numT]
    rw [e]
    have := Nat.mul_le_mul_right (2 ^ (8 * t)) (show (D.getD t 0).toNat ≤ 255 by omega)
    omega
theorem num_lt (D : List UInt8) : num D < 4294967296 := numT_lt D 4
theorem numT_or (D : List UInt8) (t : Nat) (ht : t < 4) : bits .or .i64 ((numT D t : Nat) : Int) (((D.getD t 0).toNat : Int) * 2 ^ (8 * t)) = ((numT D (t + 1) : Nat) : Int) := by
  have h1 := numT_lt D t
  have h2 := numT_lt D (t + 1)
  have h4 : (2 : Nat) ^ (8 * (t + 1)) ≤ 2 ^ 32 := Nat.pow_le_pow_right (by decide) (by omega)
  have h5 : (2 : Nat) ^ (8 * t) ≤ 2 ^ 32 := Nat.pow_le_pow_right (by decide) (by omega)
  have e : numT D (t + 1) = numT D t + (D.getD t 0).toNat * 2 ^ (8 * t) := rfl
  have hc : (((D.getD t 0).toNat * 2 ^ (8 * t) : Nat) : Int) = ((D.getD t 0).toNat : Int) * 2 ^ (8 * t) := by simp
  have h63 : (2 : Nat) ^ 32 < 2 ^ 63 := by decide
  rw [← hc, (bits_nat .i64 63 (by decide) wraps_i64 _ _ (by omega) (by omega)).2, Nat.or_comm, Nat.mul_comm, ← Nat.two_pow_add_eq_or_of_lt h1]
  rw [e, Nat.mul_comm, Nat.add_comm]
theorem getD_at' (l : List UInt8) (i : Nat) (h : i < l.length) : l.getD i 0 = l[i] := by
  rw [List.getD_eq_getElem?_getD, List.getElem?_eq_getElem h]; rfl

set_option maxHeartbeats 1000000 in
theorem numberOf_any (b len cap : Nat) (D : List UInt8) (w : World) (hl : 4 ≤ len) (hc : len ≤ cap) (hcm : cap ≤ maxLen) (hs : SlB w w.heap.size (some ⟨b, 0, none⟩) len D) :
    Calls Tryz.prog 51 #[.slice (some ⟨b, 0, none⟩) len cap] w fun e w' => e = .returned (.int .i64 (num D)) ∧ w = w' := by
  unfold maxLen at hcm
  have HS := hide hs
  have hll := hide hs.1
  have h4c : 4 ≤ cap := by omega
  clear hs hc
  go_enter Tryz.func51, Tryz.ntmps51
  go_wp2_with fail
  clear hcm
  go_loop [3, 4, 5, 9] (fun n _ _ i => ∃ t : Nat, t ≤ 4 ∧ i = .int .i64 t ∧ n = .int .i64 (numT D t : Nat)) (fun _ _ _ i => 4 - (intOf i).toNat)
  case atStart => exact ⟨0, by omega, rfl, rfl⟩
  case round =>
    obtain ⟨t, ht, rfl, rfl⟩ := hrel
    by_cases hlt : t < 4
    · obtain ⟨b', off', e', _, _, hrow⟩ := (unhide HS).at (k := t) (by omega)
      simp only [Option.some.injEq, Addr.mk.injEq] at e'
      obtain ⟨rfl, rfl, _⟩ := e'
      have hkl : t < D.length := by rw [← unhide hll]; omega
      have c0 := hrow t hkl
      rw [Nat.zero_add] at c0
      have hor := numT_or D t hlt
      have hlow := numT_lt D t
      have hlow2 : (2 : Nat) ^ (8 * t) ≤ 2 ^ 24 := Nat.pow_le_pow_right (by decide) (by omega)
      rw [getD_at' _ _ hkl] at hor
      have hu := (D[t]).toNat_lt
      clear hrow
      generalize D[t] = c at c0 hor hu
      unfold byteV at c0
      have hor2 : Hid _ := hide hor
      clear hor
      have hmx : (0 : Int) ≤ (c.toNat : Int) * 2 ^ (8 * t) ∧ (c.toNat : Int) * 2 ^ (8 * t) < 4294967296 := by
        have hc : ((c.toNat * 2 ^ (8 * t) : Nat) : Int) = (c.toNat : Int) * 2 ^ (8 * t) := by simp
        have hx : c.toNat * 2 ^ (8 * t) ≤ 255 * 2 ^ 24 := Nat.mul_le_mul (by omega) hlow2
        rw [← hc]; omega
      clear hlow2 hlow
      go_wp2_with fail
      exact ⟨⟨t + 1, by omega, by go_num, by rw [unhide hor2]⟩, by simp [intOf]; omega⟩
    · obtain rfl : t = 4 := by omega
      go_wp2_with fail
      go_ret
      exact ⟨rfl, rfl⟩

/-- The number from byte t on, of four. -/
def numU (D : List UInt8) (t : Nat) : Nat := num D / 2 ^ (8 * t)
theorem num_eq (D : List UInt8) : num D = (D.getD 0 0).toNat + 256 * (D.getD 1 0).toNat + 65536 * (D.getD 2 0).toNat + 16777216 * (D.getD 3 0).toNat := by
  simp only [num, numT, Nat.reduceMul, Nat.reducePow]; omega
theorem numU_step (D : List UInt8) (t : Nat) (ht : t < 4) : numU D t = numU D (t + 1) * 256 + (D.getD t 0).toNat := by
  have h0 := (D.getD 0 0).toNat_lt
  have h1 := (D.getD 1 0).toNat_lt
  have h2 := (D.getD 2 0).toNat_lt
  have h3 := (D.getD 3 0).toNat_lt
  unfold numU
  rw [num_eq]
  have hc : t = 0 ∨ t = 1 ∨ t = 2 ∨ t = 3 := by omega
  rcases hc with rfl | rfl | rfl | rfl
  all_goals
    simp only [Nat.reduceMul, Nat.reduceAdd, Nat.reducePow]
    omega
theorem numU_lt (D : List UInt8) (t : Nat) : numU D t < 4294967296 := Nat.lt_of_le_of_lt (Nat.div_le_self _ _) (num_lt D)
set_option maxHeartbeats 1000000 in
theorem l2Number_any (b len cap : Nat) (D : List UInt8) (w : World) (hl : 4 ≤ len) (hl2 : len ≤ 1000) (hs : SlB w w.heap.size (some ⟨b, 0, none⟩) len D) :
    Calls Tryz.prog 39 #[.slice (some ⟨b, 0, none⟩) len cap] w fun e w' => e = .returned (.int .i64 (num D)) ∧ w = w' := by
  have HS := hide hs
  have hll := hide hs.1
  clear hs
  go_enter Tryz.func39, Tryz.ntmps39
  go_wp2_with fail
  go_loop [3, 4] (fun n i => ∃ (t q : Nat), t ≤ 4 ∧ i = .int .i64 ((t : Int) - 1) ∧ n = .int .i64 q ∧ q < 4294967296 ∧ Hid (q = numU D t)) (fun _ i => (intOf i + 1).toNat)
  case atStart => exact ⟨4, 0, by omega, rfl, rfl, by omega, hide (by have := num_lt D; unfold numU; rw [Nat.div_eq_of_lt (by omega)])⟩
  case round =>
    obtain ⟨t, q, ht, rfl, rfl, hq, hQ⟩ := hrel
    by_cases hz : t = 0
    · subst hz
      have E := hide (show q = num D by rw [unhide hQ]; unfold numU; simp)
      go_wp2_with fail
      go_ret
      exact ⟨by rw [← unhide E]; rfl, rfl⟩
    obtain ⟨j, rfl⟩ : ∃ j, t = j + 1 := ⟨t - 1, by omega⟩
    obtain ⟨b', off', e', _, _, hrow⟩ := (unhide HS).at (k := j) (by omega)
    simp only [Option.some.injEq, Addr.mk.injEq] at e'
    obtain ⟨rfl, rfl, _⟩ := e'
    have hkl : j < D.length := by rw [← unhide hll]; omega
    have c0 := hrow j hkl
    rw [Nat.zero_add] at c0
    have hst := hide (numU_step D j (by omega))
    rw [getD_at' _ _ hkl, ← unhide hQ] at hst
    have hlt := numU_lt D j
    rw [unhide hst] at hlt
    clear hrow
    generalize D[j] = c at c0 hst hlt
    unfold byteV at c0
    go_wp2_with fail
    exact ⟨⟨j, q * 256 + c.toNat, by omega, rfl, by simp, hlt, hide (unhide hst).symm⟩, by simp [intOf]⟩

/-- What ties R to the data. -/
def eN (r : Nat) (d : List UInt8) : Nat := num (dig (bytes4 r ++ dig d)) % 1073741789
theorem eN_lt (r : Nat) (d : List UInt8) : eN r d < 1073741789 := Nat.mod_lt _ (by decide)
end Go.Proofs.YthemcakenammdaaGreatDoor.D
