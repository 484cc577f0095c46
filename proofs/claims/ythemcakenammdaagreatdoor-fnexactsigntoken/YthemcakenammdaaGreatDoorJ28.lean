/- DSgn, DSgnB, one behind the other. -/
import Derived.Test.YthemcakenammdaaGreatDoorJ27
/- Numbers of digests; what ties R to the data; signatures. -/
namespace Go.Proofs.YthemcakenammdaaGreatDoor.D
set_option maxRecDepth 20000
open Go.RowKit

/-- The number of the first t bytes, the lowest first. -/
def numT (D : List UInt8) : Nat → Nat
  | 0 => 0
  | t + 1 => numT D t + (D.getD t 0).toNat * 2 ^ (8 * t)
def num (D : List UInt8) : Nat := numT D 4
theorem numT_lt (D : List UInt8) (t : Nat) : numT D t < 2 ^ (8 * t) := by
  induction t with
  | zero => simp [numT]
  | succ t ih =>
    have hu := (D.getD t 0).toNat_lt
    have e : 2 ^ (8 * (t + 1)) = 256 * 2 ^ (8 * t) := by rw [Nat.mul_add, Nat.pow_add, Nat.mul_comm]
    simp only [numT]
    rw [e]
    have := Nat.mul_le_mul_right (2 ^ (8 * t)) (show (D.getD t 0).toNat ≤ 255 by omega)
    omega
theorem num_lt (D : List UInt8) : num D < 4294967296 := numT_lt D 4
theorem numT_or (D : List UInt8) (t : Nat) (ht : t < 4) : bits .or .i64 ((numT D t : Nat) : Int) (((D.getD t 0).toNat : Int) * 2 ^ (8 * t)) = ((numT D (t + 1) : Nat) : Int) := by
  have h1 := numT_lt D t
  have h2 := numT_lt D (t + 1)
  have h4 : (2 : Nat) ^ (8 * (t + 1)) ≤ 2 ^ 32 := Nat.pow_le_pow_right (by decide) (by omega)
  have h5 : (2 : Nat) ^ (8 * t) ≤ 2 ^ 32 := Nat.pow_le_pow_right (by decide) (by omega)
  have e : numT D (t + 1) = numT D t + (D.getD t 0).toNat * 2 ^ (8 * t) := rfl
  have hc : (((D.getD t 0).toNat * 2 ^ (8 * t) : Nat) : Int) = ((D.getD t 0).toNat : Int) * 2 ^ (8 * t) := by simp
  have h63 : (2 : Nat) ^ 32 < 2 ^ 63 := by decide
  rw [← hc, (bits_nat .i64 63 (by decide) wraps_i64 _ _ (by omega) (by omega)).2, Nat.or_comm, Nat.mul_comm, ← Nat.two_pow_add_eq_or_of_lt h1]
  rw [e, Nat.mul_comm, Nat.add_comm]
theorem getD_at' (l : List UInt8) (i : Nat) (h : i < l.length) : l.getD i 0 = l[i] := by
  rw [List.getD_eq_getElem?_getD, List.getElem?_eq_getElem h]; rfl

set_option maxHeartbeats 1000000 in
theorem numberOf_any (b len cap : Nat) (D : List UInt8) (w : World) (hl : 4 ≤ len) (hc : len ≤ cap) (hcm : cap ≤ maxLen) (hs : SlB w w.heap.size (some ⟨b, 0, none⟩) len D) :
    Calls Tryz.prog 51 #[.slice (some ⟨b, 0, none⟩) len cap] w fun e w' => e = .returned (.int .i64 (num D)) ∧ w = w' := by
  unfold maxLen at hcm
  have HS := hide hs
  have hll := hide hs.1
  have h4c : 4 ≤ cap := by omega
  clear hs hc
  go_enter Tryz.func51, Tryz.ntmps51
  go_wp2_with fail
  clear hcm
  go_loop [3, 4, 5, 9] (fun n _ _ i => ∃ t : Nat, t ≤ 4 ∧ i = .int .i64 t ∧ n = .int .i64 (numT D t : Nat)) (fun _ _ _ i => 4 - (intOf i).toNat)
  case atStart => exact ⟨0, by omega, rfl, rfl⟩
  case round =>
    obtain ⟨t, ht, rfl, rfl⟩ := hrel
    by_cases hlt : t < 4
    · obtain ⟨b', off', e', _, _, hrow⟩ := (unhide HS).at (k := t) (by omega)
      simp only [Option.some.injEq, Addr.mk.injEq] at e'
      obtain ⟨rfl, rfl, _⟩ := e'
      have hkl : t < D.length := by rw [← unhide hll]; omega
      have c0 := hrow t hkl
      rw [Nat.zero_add] at c0
      have hor := numT_or D t hlt
      have hlow := numT_lt D t
      have hlow2 : (2 : Nat) ^ (8 * t) ≤ 2 ^ 24 := Nat.pow_le_pow_right (by decide) (by omega)
      rw [getD_at' _ _ hkl] at hor
      have hu := (D[t]).toNat_lt
      clear hrow
      generalize D[t] = c at c0 hor hu
      unfold byteV at c0
      have hor2 : Hid _ := hide hor
      clear hor
      have hmx : (0 : Int) ≤ (c.toNat : Int) * 2 ^ (8 * t) ∧ (c.toNat : Int) * 2 ^ (8 * t) < 4294967296 := by
        have hc : ((c.toNat * 2 ^ (8 * t) : Nat) : Int) = (c.toNat : Int) * 2 ^ (8 * t) := by simp
        have hx : c.toNat * 2 ^ (8 * t) ≤ 255 * 2 ^ 24 := Nat.mul_le_mul (by omega) hlow2
        rw [← hc]; omega
      clear hlow2 hlow
      go_wp2_with fail
      exact ⟨⟨t + 1, by omega, by go_num, by rw [unhide hor2]⟩, by simp [intOf]; omega⟩
    · obtain rfl : t = 4 := by omega
      go_wp2_with fail
      go_ret
      exact ⟨rfl, rfl⟩

/-- The number from byte t on, of four. -/
def numU (D : List UInt8) (t : Nat) : Nat := num D / 2 ^ (8 * t)
theorem num_eq (D : List UInt8) : num D = (D.getD 0 0).toNat + 256 * (D.getD 1 0).toNat + 65536 * (D.getD 2 0).toNat + 16777216 * (D.getD 3 0).toNat := by
  simp only [num, numT, Nat.reduceMul, Nat.reducePow]; omega
theorem numU_step (D : List UInt8) (t : Nat) (ht : t < 4) : numU D t = numU D (t + 1) * 256 + (D.getD t 0).toNat := by
  have h0 := (D.getD 0 0).toNat_lt
  have h1 := (D.getD 1 0).toNat_lt
  have h2 := (D.getD 2 0).toNat_lt
  have h3 := (D.getD 3 0).toNat_lt
  unfold numU
  rw [num_eq]
  have hc : t = 0 ∨ t = 1 ∨ t = 2 ∨ t = 3 := by omega
  rcases hc with rfl | rfl | rfl | rfl
  all_goals
    simp only [Nat.reduceMul, Nat.reduceAdd, Nat.reducePow]
    omega
theorem numU_lt (D : List UInt8) (t : Nat) : numU D t < 4294967296 := Nat.lt_of_le_of_lt (Nat.div_le_self _ _) (num_lt D)
set_option maxHeartbeats 1000000 in
theorem l2Number_any (b len cap : Nat) (D : List UInt8) (w : World) (hl : 4 ≤ len) (hl2 : len ≤ 1000) (hs : SlB w w.heap.size (some ⟨b, 0, none⟩) len D) :
    Calls Tryz.prog 39 #[.slice (some ⟨b, 0, none⟩) len cap] w fun e w' => e = .returned (.int .i64 (num D)) ∧ w = w' := by
  have HS := hide hs
  have hll := hide hs.1
  clear hs
  go_enter Tryz.func39, Tryz.ntmps39
  go_wp2_with fail
  go_loop [3, 4] (fun n i => ∃ (t q : Nat), t ≤ 4 ∧ i = .int .i64 ((t : Int) - 1) ∧ n = .int .i64 q ∧ q < 4294967296 ∧ Hid (q = numU D t)) (fun _ i => (intOf i + 1).toNat)
  case atStart => exact ⟨4, 0, by omega, rfl, rfl, by omega, hide (by have := num_lt D; unfold numU; rw [Nat.div_eq_of_lt (by omega)])⟩
  case round =>
    obtain ⟨t, q, ht, rfl, rfl, hq, hQ⟩ := hrel
    by_cases hz : t = 0
    · subst hz
      have E := hide (show q = num D by rw [unhide hQ]; unfold numU; simp)
      go_wp2_with fail
      go_ret
      exact ⟨by rw [← unhide E]; rfl, rfl⟩
    obtain ⟨j, rfl⟩ : ∃ j, t = j + 1 := ⟨t - 1, by omega⟩
    obtain ⟨b', off', e', _, _, hrow⟩ := (unhide HS).at (k := j) (by omega)
    simp only [Option.some.injEq, Addr.mk.injEq] at e'
    obtain ⟨rfl, rfl, _⟩ := e'
    have hkl : j < D.length := by rw [← unhide hll]; omega
    have c0 := hrow j hkl
    rw [Nat.zero_add] at c0
    have hst := hide (numU_step D j (by omega))
    rw [getD_at' _ _ hkl, ← unhide hQ] at hst
    have hlt := numU_lt D j
    rw [unhide hst] at hlt
    clear hrow
    generalize D[j] = c at c0 hst hlt
    unfold byteV at c0
    go_wp2_with fail
    exact ⟨⟨j, q * 256 + c.toNat, by omega, rfl, by simp, hlt, hide (unhide hst).symm⟩, by simp [intOf]⟩

/-- What ties R to the data. -/
def eN (r : Nat) (d : List UInt8) : Nat := num (dig (bytes4 r ++ dig d)) % 1073741789
theorem eN_lt (r : Nat) (d : List UInt8) : eN r d < 1073741789 := Nat.mod_lt _ (by decide)
end Go.Proofs.YthemcakenammdaaGreatDoor.D
/- impl.boundTo, spec.l2E; Sign on both sides. -/
namespace Go.Proofs.YthemcakenammdaaGreatDoor.D
set_option maxRecDepth 20000
open Go.RowKit

set_option maxHeartbeats 1000000 in
theorem boundTo_any (r : Nat) (ad : Option Addr) (ld cd : Nat) (d : List UInt8) (w : World) (h2 : ld ≤ 20000) (hd : SlB w w.heap.size ad ld d) (hM : Mults w) :
    Calls Tryz.prog 54 #[.int .i64 r, .slice ad ld cd] w fun e w' => e = .returned (.int .i64 (eN r d)) ∧ Below w.heap.size w w' := by
  have HD := hide hd
  have ed := hide hd.1
  have HM := hide hM
  have h00 := hM.1
  clear hd hM
  have m2 := hide (show ld ≤ maxLen by unfold maxLen; omega)
  go_enter Tryz.func54, Tryz.ntmps54
  go_wp2_with fail
  refine (asBytes_any r _).mono ?_
  rintro e w1 ⟨rfl, hr1, hb1⟩
  obtain ⟨Rs, hRs⟩ : ∃ Rs, bytes4 r = Rs := ⟨_, rfl⟩
  have l1 := hide (show Rs.length = 4 by rw [← hRs]; rfl)
  rw [hRs] at hr1
  have HRs := hide hRs
  have S1 := hide (slB_row hr1 hr1.lt)
  rw [unhide l1] at S1
  have B1 := hide hb1
  clear hr1 hb1 hRs
  go_wp2_with fail
  refine (iDigest_any ad ld cd d _ (unhide m2) (((unhide HD).keep (unhide B1)).mono (unhide B1).size) ((unhide HM).keepB (unhide B1) h00)).mono ?_
  rintro e w2 ⟨v2, D2, hD2, rfl, ho2, hb2⟩
  have E2 := hide ((unhide hD2).trans (digD_yes (by rw [← unhide ed]; exact h2)).symm)
  have l2 := hide (show D2.length = 16 by rw [unhide E2]; exact dig_len d)
  obtain ⟨b2, c2, rfl, _, _, _, hs2⟩ := own_some ho2 (by rw [unhide l2]; decide)
  have S2 := hide hs2
  have S1' := hide (((unhide S1).keep hb2).mono hb2.size)
  have B2 := hide (bTr (unhide B1) hb2)
  clear ho2 hs2 hb2 S1 B1 hD2
  have RG := hide (RowIs.new w2 #[.slice (some ⟨w.heap.size, 0, none⟩) 4 4, .slice (some ⟨b2, 0, none⟩) D2.length c2] 44)
  have BA := hide (bAl (Below.refl w2.heap.size w2) (.cells #[.slice (some ⟨w.heap.size, 0, none⟩) 4 4, .slice (some ⟨b2, 0, none⟩) D2.length c2] 44))
  have BB := hide (bTr (unhide B2) (unhide BA))
  go_wp2_with fail
  refine (concat_any w2.heap.size w.heap.size 0 4 4 b2 0 D2.length c2 Rs D2 _ (by decide) (by decide) (by rw [unhide l2]; decide) (unhide RG) (((unhide S1').keep (unhide BA)).mono (unhide BA).size) (((unhide S2).keep (unhide BA)).mono (unhide BA).size)).mono ?_
  rintro e w3 ⟨v3, D3, hD3, rfl, ho3, hb3⟩
  have l3 := hide (show D3.length = 20 by rw [unhide hD3, List.length_append, unhide l1, unhide l2])
  obtain ⟨b3, c3, rfl, _, _, _, hs3⟩ := own_some ho3 (by rw [unhide l3]; decide)
  have S3 := hide hs3
  have B3 := hide (bTr (unhide BB) hb3)
  clear ho3 hs3 hb3 BB BA RG S1' S2
  go_wp2_with fail
  refine (iDigest_any _ D3.length c3 D3 _ (by rw [unhide l3]; unfold maxLen; omega) (unhide S3) ((unhide HM).keepB (unhide B3) h00)).mono ?_
  rintro e w4 ⟨v4, D4, hD4, rfl, ho4, hb4⟩
  have E4 := hide ((unhide hD4).trans (digD_yes (by rw [unhide l3]; decide)).symm)
  have l4 := hide (show D4.length = 16 by rw [unhide E4]; exact dig_len D3)
  obtain ⟨b4, c4, rfl, _, hc4, hcm4, hs4⟩ := own_some ho4 (by rw [unhide l4]; decide)
  have S4 := hide hs4
  have C4 := hide (And.intro hc4 hcm4)
  have B4 := hide (bTr (unhide B3) hb4)
  clear ho4 hs4 hb4 B3 S3 hc4 hcm4 hD4
  go_wp2_with fail
  refine (numberOf_any b4 D4.length c4 D4 _ (by rw [unhide l4]; decide) (unhide C4).1 (unhide C4).2 (unhide S4)).mono ?_
  rintro e w5 ⟨rfl, rfl⟩
  have hn := num_lt D4
  have EE := hide (show num D4 % 1073741789 = eN r d by unfold eN; rw [unhide E4, unhide hD3, ← unhide HRs, unhide E2])
  generalize num D4 = N at hn EE
  go_wp2_with fail
  go_ret
  exact ⟨by rw [← unhide EE]; simp, unhide B4⟩

set_option maxHeartbeats 1000000 in
theorem l2E_any (r : Nat) (ad : Option Addr) (ld cd : Nat) (d : List UInt8) (w : World) (hr : r < 4611686018427387904) (h2 : ld ≤ 1048576) (hd : SlB w w.heap.size ad ld d) :
    Calls Tryz.prog 42 #[.int .i64 r, .slice ad ld cd] w fun e w' => e = .returned (.int .i64 (eN r d)) ∧ Below w.heap.size w w' := by
  obtain ⟨i0, hi, hz0, hz1, hz2⟩ := info_parts info_u8
  have HD := hide hd
  clear hd
  go_enter Tryz.func42, Tryz.ntmps42
  go_wp2_with fail
  refine (l2Bytes_any r _ hr).mono ?_
  rintro e w1 ⟨rfl, hr1, hb1⟩
  obtain ⟨Rs, hRs⟩ : ∃ Rs, bytes4 r = Rs := ⟨_, rfl⟩
  have l1 := hide (show Rs.length = 4 by rw [← hRs]; rfl)
  rw [hRs] at hr1
  have HRs := hide hRs
  have R1 := hide hr1
  have B1 := hide hb1
  have z1 := hr1.lt
  clear hr1 hb1 hRs
  go_wp2_with (at_builtin; refine wpList_append_own _ rfl _ _ 44 rfl w.heap.size 5 i0 (.int .u8 0) 1 1 Tryz.underlying44 hi hz0 hz1 hz2 rfl (by decide) (.slice none 0 0) 0 [] rfl (World.ownsRow_nil _ _ _ _) ⟨w.heap.size, 0, none⟩ 4 4 (Rs.map byteV) rfl (by rw [List.length_map, unhide l1]) (row_news (unhide R1)) one_cell (by unfold maxLen; omega) (by omega) (by omega) ?_; intro v2 w2 hown2 hgrow2 _; have B2 := hide ((unhide B1).grown hgrow2 (by omega) (fun j hj => by cases hj)); have O2 := hide (show w2.ownsRow w.heap.size 5 1 v2 Rs.length (Rs.map byteV) by (rw [unhide l1]; rw [Nat.zero_add, List.nil_append] at hown2; exact hown2)); clear hown2 hgrow2)
  have z2 := (unhide B2).size
  refine (l2Digest_any ad ld cd d _ h2 (((unhide HD).keep (unhide B2)).mono z2)).mono ?_
  rintro e w3 ⟨v3, D3, hD3, rfl, ho3, hb3⟩
  have l3 := hide (show D3.length = 16 by rw [unhide hD3]; exact dig_len d)
  obtain ⟨b3, c3, rfl, _, _, _, hs3⟩ := own_some ho3 (by rw [unhide l3]; decide)
  have O3 := hide (own_keep (unhide O2) hb3)
  have N3 := hide (sl_news hs3)
  have B3 := hide (bTr (unhide B2) hb3)
  have z3 := (unhide B3).size
  clear ho3 hs3 hb3 O2 B2
  go_wp2_with (at_builtin; refine wpList_append_own _ rfl _ _ 44 rfl w.heap.size 5 i0 (.int .u8 0) 1 1 Tryz.underlying44 hi hz0 hz1 hz2 rfl (by decide) _ _ _ rfl (unhide O3) ⟨b3, 0, none⟩ D3.length c3 (D3.map byteV) rfl (by simp) (unhide N3) one_cell (by rw [unhide l1, unhide l3]; unfold maxLen; omega) (by rw [unhide l1, unhide l3]; omega) z3 ?_; intro v4 w4 hown4 hgrow4 _; have B4 := hide ((unhide B3).grown hgrow4 z3 (fun j hj => ((unhide O3).lt j hj).1)); have O4 := hide (show w4.ownsRow w.heap.size 5 1 v4 (Rs ++ D3).length ((Rs ++ D3).map byteV) by (rw [List.length_append, List.map_append]; exact hown4)); clear hown4 hgrow4)
  obtain ⟨N, hN⟩ : ∃ N, Rs ++ D3 = N := ⟨_, rfl⟩
  rw [hN] at O4
  have l4 := hide (show N.length = 20 by rw [← hN, List.length_append, unhide l1, unhide l3])
  have HN := hide hN
  clear hN
  obtain ⟨b4, c4, rfl, _, _, _, hs4⟩ := own_some (unhide O4) (by rw [unhide l4]; decide)
  have S4 := hide hs4
  clear hs4 O3 O4
  refine (l2Digest_any _ N.length c4 N _ (by rw [unhide l4]; decide) (unhide S4)).mono ?_
  rintro e w5 ⟨v5, D5, hD5, rfl, ho5, hb5⟩
  have l5 := hide (show D5.length = 16 by rw [unhide hD5]; exact dig_len N)
  obtain ⟨b5, c5, rfl, _, _, _, hs5⟩ := own_some ho5 (by rw [unhide l5]; decide)
  have S5 := hide hs5
  have B5 := hide (bTr (unhide B4) hb5)
  clear ho5 hs5 hb5 B4
  go_wp2_with fail
  refine (l2Number_any b5 D5.length c5 D5 _ (by rw [unhide l5]; decide) (by rw [unhide l5]; decide) (unhide S5)).mono ?_
  rintro e w6 ⟨rfl, rfl⟩
  have hn := num_lt D5
  have EE := hide (show num D5 % 1073741789 = eN r d by unfold eN; rw [unhide hD5, ← unhide HN, ← unhide HRs, unhide hD3])
  generalize num D5 = M at hn EE
  go_wp2_with fail
  go_ret
  exact ⟨by rw [← unhide EE]; simp, unhide B5⟩
end Go.Proofs.YthemcakenammdaaGreatDoor.D
