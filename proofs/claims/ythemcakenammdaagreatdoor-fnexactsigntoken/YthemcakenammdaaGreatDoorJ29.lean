/- DSgnB, DSgnC, one behind the other. -/
import Derived.Test.YthemcakenammdaaGreatDoorJ28
/- impl.boundTo, spec.l2E; Sign on both sides. -/
namespace Go.Proofs.YthemcakenammdaaGreatDoor.D
set_option maxRecDepth 20000
open Go.RowKit

set_option maxHeartbeats 1000000 in
theorem boundTo_any (r : Nat) (ad : Option Addr) (ld cd : Nat) (d : List UInt8) (w : World) (h2 : ld ≤ 20000) (hd : SlB w w.heap.size ad ld d) (hM : Mults w) :
    Calls Tryz.prog 54 #[.int .i64 r, .slice ad ld cd] w fun e w' => e = .returned (.int .i64 (eN r d)) ∧ Below w.heap.size w w' := by
  have HD := hide hd
  have ed := hide hd.1
  have HM := hide hM
  have h00 := hM.1
  clear hd hM
  have m2 := hide (show ld ≤ maxLen by unfold maxLen; omega)
  go_enter Tryz.func54, Tryz.ntmps54
  go_wp2_with fail
  refine (asBytes_any r _).mono ?_
  rintro e w1 ⟨rfl, hr1, hb1⟩
  obtain ⟨Rs, hRs⟩ : ∃ Rs, bytes4 r = Rs := ⟨_, rfl⟩
  have l1 := hide (show Rs.length = 4 by rw [← hRs]; rfl)
  rw [hRs] at hr1
  have HRs := hide hRs
  have S1 := hide (slB_row hr1 hr1.lt)
  rw [unhide l1] at S1
  have B1 := hide hb1
  clear hr1 hb1 hRs
  go_wp2_with fail
  refine (iDigest_any ad ld cd d _ (unhide m2) (((unhide HD).keep (unhide B1)).mono (unhide B1).size) ((unhide HM).keepB (unhide B1) h00)).mono ?_
  rintro e w2 ⟨v2, D2, hD2, rfl, ho2, hb2⟩
  have E2 := hide ((unhide hD2).trans (digD_yes (by rw [← unhide ed]; exact h2)).symm)
  have l2 := hide (show D2.length = 16 by rw [unhide E2]; exact dig_len d)
  obtain ⟨b2, c2, rfl, _, _, _, hs2⟩ := own_some ho2 (by rw [unhide l2]; decide)
  have S2 := hide hs2
  have S1' := hide (((unhide S1).keep hb2).mono hb2.size)
  have B2 := hide (bTr (unhide B1) hb2)
  clear ho2 hs2 hb2 S1 B1 hD2
  have RG := hide (RowIs.new w2 #[.slice (some ⟨w.heap.size, 0, none⟩) 4 4, .slice (some ⟨b2, 0, none⟩) D2.length c2] 44)
  have BA := hide (bAl (Below.refl w2.heap.size w2) (.cells #[.slice (some ⟨w.heap.size, 0, none⟩) 4 4, .slice (some ⟨b2, 0, none⟩) D2.length c2] 44))
  have BB := hide (bTr (unhide B2) (unhide BA))
  go_wp2_with fail
  refine (concat_any w2.heap.size w.heap.size 0 4 4 b2 0 D2.length c2 Rs D2 _ (by decide) (by decide) (by rw [unhide l2]; decide) (unhide RG) (((unhide S1').keep (unhide BA)).mono (unhide BA).size) (((unhide S2).keep (unhide BA)).mono (unhide BA).size)).mono ?_
  rintro e w3 ⟨v3, D3, hD3, rfl, ho3, hb3⟩
  have l3 := hide (show D3.length = 20 by rw [unhide hD3, List.length_append, unhide l1, unhide l2])
  obtain ⟨b3, c3, rfl, _, _, _, hs3⟩ := own_some ho3 (by rw [unhide l3]; decide)
  have S3 := hide hs3
  have B3 := hide (bTr (unhide BB) hb3)
  clear ho3 hs3 hb3 BB BA RG S1' S2
  go_wp2_with fail
  refine (iDigest_any _ D3.length c3 D3 _ (by rw [unhide l3]; unfold maxLen; omega) (unhide S3) ((unhide HM).keepB (unhide B3) h00)).mono ?_
  rintro e w4 ⟨v4, D4, hD4, rfl, ho4, hb4⟩
  have E4 := hide ((unhide hD4).trans (digD_yes (by rw [unhide l3]; decide)).symm)
  have l4 := hide (show D4.length = 16 by rw [unhide E4]; exact dig_len D3)
  obtain ⟨b4, c4, rfl, _, hc4, hcm4, hs4⟩ := own_some ho4 (by rw [unhide l4]; decide)
  have S4 := hide hs4
  have C4 := hide (And.intro hc4 hcm4)
  have B4 := hide (bTr (unhide B3) hb4)
  clear ho4 hs4 hb4 B3 S3 hc4 hcm4 hD4
  go_wp2_with fail
  refine (numberOf_any b4 D4.length c4 D4 _ (by rw [unhide l4]; decide) (unhide C4).1 (unhide C4).2 (unhide S4)).mono ?_
  rintro e w5 ⟨rfl, rfl⟩
  have hn := num_lt D4
  have EE := hide (show num D4 % 1073741789 = eN r d by unfold eN; rw [unhide E4, unhide hD3, ← unhide HRs, unhide E2])
  generalize num D4 = N at hn EE
  go_wp2_with fail
  go_ret
  exact ⟨by rw [← unhide EE]; simp, unhide B4⟩

set_option maxHeartbeats 1000000 in
theorem l2E_any (r : Nat) (ad : Option Addr) (ld cd : Nat) (d : List UInt8) (w : World) (hr : r < 4611686018427387904) (h2 : ld ≤ 1048576) (hd : SlB w w.heap.size ad ld d) :
    Calls Tryz.prog 42 #[.int .i64 r, .slice ad ld cd] w fun e w' => e = .returned (.int .i64 (eN r d)) ∧ Below w.heap.size w w' := by
  obtain ⟨i0, hi, hz0, hz1, hz2⟩ := info_parts info_u8
  have HD := hide hd
  clear hd
  go_enter Tryz.func42, Tryz.ntmps42
  go_wp2_with fail
  refine (l2Bytes_any r _ hr).mono ?_
  rintro e w1 ⟨rfl, hr1, hb1⟩
  obtain ⟨Rs, hRs⟩ : ∃ Rs, bytes4 r = Rs := ⟨_, rfl⟩
  have l1 := hide (show Rs.length = 4 by rw [← hRs]; rfl)
  rw [hRs] at hr1
  have HRs := hide hRs
  have R1 := hide hr1
  have B1 := hide hb1
  have z1 := hr1.lt
  clear hr1 hb1 hRs
  go_wp2_with (at_builtin; refine wpList_append_own _ rfl _ _ 44 rfl w.heap.size 5 i0 (.int .u8 0) 1 1 Tryz.underlying44 hi hz0 hz1 hz2 rfl (by decide) (.slice none 0 0) 0 [] rfl (World.ownsRow_nil _ _ _ _) ⟨w.heap.size, 0, none⟩ 4 4 (Rs.map byteV) rfl (by rw [List.length_map, unhide l1]) (row_news (unhide R1)) one_cell (by unfold maxLen; omega) (by omega) (by omega) ?_; intro v2 w2 hown2 hgrow2 _; have B2 := hide ((unhide B1).grown hgrow2 (by omega) (fun j hj => by cases hj)); have O2 := hide (show w2.ownsRow w.heap.size 5 1 v2 Rs.length (Rs.map byteV) by (rw [unhide l1]; rw [Nat.zero_add, List.nil_append] at hown2; exact hown2)); clear hown2 hgrow2)
  have z2 := (unhide B2).size
  refine (l2Digest_any ad ld cd d _ h2 (((unhide HD).keep (unhide B2)).mono z2)).mono ?_
  rintro e w3 ⟨v3, D3, hD3, rfl, ho3, hb3⟩
  have l3 := hide (show D3.length = 16 by rw [unhide hD3]; exact dig_len d)
  obtain ⟨b3, c3, rfl, _, _, _, hs3⟩ := own_some ho3 (by rw [unhide l3]; decide)
  have O3 := hide (own_keep (unhide O2) hb3)
  have N3 := hide (sl_news hs3)
  have B3 := hide (bTr (unhide B2) hb3)
  have z3 := (unhide B3).size
  clear ho3 hs3 hb3 O2 B2
  go_wp2_with (at_builtin; refine wpList_append_own _ rfl _ _ 44 rfl w.heap.size 5 i0 (.int .u8 0) 1 1 Tryz.underlying44 hi hz0 hz1 hz2 rfl (by decide) _ _ _ rfl (unhide O3) ⟨b3, 0, none⟩ D3.length c3 (D3.map byteV) rfl (by simp) (unhide N3) one_cell (by rw [unhide l1, unhide l3]; unfold maxLen; omega) (by rw [unhide l1, unhide l3]; omega) z3 ?_; intro v4 w4 hown4 hgrow4 _; have B4 := hide ((unhide B3).grown hgrow4 z3 (fun j hj => ((unhide O3).lt j hj).1)); have O4 := hide (show w4.ownsRow w.heap.size 5 1 v4 (Rs ++ D3).length ((Rs ++ D3).map byteV) by (rw [List.length_append, List.map_append]; exact hown4)); clear hown4 hgrow4)
  obtain ⟨N, hN⟩ : ∃ N, Rs ++ D3 = N := ⟨_, rfl⟩
  rw [hN] at O4
  have l4 := hide (show N.length = 20 by rw [← hN, List.length_append, unhide l1, unhide l3])
  have HN := hide hN
  clear hN
  obtain ⟨b4, c4, rfl, _, _, _, hs4⟩ := own_some (unhide O4) (by rw [unhide l4]; decide)
  have S4 := hide hs4
  clear hs4 O3 O4
  refine (l2Digest_any _ N.length c4 N _ (by rw [unhide l4]; decide) (unhide S4)).mono ?_
  rintro e w5 ⟨v5, D5, hD5, rfl, ho5, hb5⟩
  have l5 := hide (show D5.length = 16 by rw [unhide hD5]; exact dig_len N)
  obtain ⟨b5, c5, rfl, _, _, _, hs5⟩ := own_some ho5 (by rw [unhide l5]; decide)
  have S5 := hide hs5
  have B5 := hide (bTr (unhide B4) hb5)
  clear ho5 hs5 hb5 B4
  go_wp2_with fail
  refine (l2Number_any b5 D5.length c5 D5 _ (by rw [unhide l5]; decide) (by rw [unhide l5]; decide) (unhide S5)).mono ?_
  rintro e w6 ⟨rfl, rfl⟩
  have hn := num_lt D5
  have EE := hide (show num D5 % 1073741789 = eN r d by unfold eN; rw [unhide hD5, ← unhide HN, ← unhide HRs, unhide hD3])
  generalize num D5 = M at hn EE
  go_wp2_with fail
  go_ret
  exact ⟨by rw [← unhide EE]; simp, unhide B5⟩
end Go.Proofs.YthemcakenammdaaGreatDoor.D
/- Sign on both sides. -/
namespace Go.Proofs.YthemcakenammdaaGreatDoor.D
set_option maxRecDepth 20000
open Go.RowKit

def kN (s : Nat) (d : List UInt8) : Nat := 1 + num (mac (bytes4 s) d) % 1073741788
theorem kN_lt (s : Nat) (d : List UInt8) : kN s d < 1073741789 := by
  have := Nat.mod_lt (num (mac (bytes4 s) d)) (show 0 < 1073741788 by decide)
  unfold kN; omega
def rN (s : Nat) (d : List UInt8) : Nat := pw 4 (kN s d) 2147483579
theorem rN_lt (s : Nat) (d : List UInt8) : rN s d < 2147483579 := pw_lt _ _ _ (by decide)
def zN (s : Nat) (d : List UInt8) : Nat := (kN s d + eN (rN s d) d * s) % 1073741789
theorem zN_lt (s : Nat) (d : List UInt8) : zN s d < 1073741789 := Nat.mod_lt _ (by decide)
def sigV (r z : Nat) : Value := .agg #[.int .i64 (r : Int), .int .i64 (z : Int)]

set_option maxHeartbeats 1000000 in
theorem l2Sign_any (s : Nat) (ad : Option Addr) (ld cd : Nat) (d : List UInt8) (w : World) (hs : s < 1073741789) (h2 : ld ≤ 1048576) (hd : SlB w w.heap.size ad ld d) :
    Calls Tryz.prog 17 #[.int .i64 s, .slice ad ld cd] w fun e w' => e = .returned (.agg #[.int .i64 (rN s d), .int .i64 (zN s d)]) ∧ Below w.heap.size w w' := by
  have HD := hide hd
  clear hd
  have RA := hide (RowIs.new w #[.int .i64 0, .int .i64 0] 47)
  have BA := hide (bAl (Below.refl w.heap.size w) (.cells #[.int .i64 0, .int .i64 0] 47))
  have hA1 := hide (show (w.alloc (.cells #[.int .i64 0, .int .i64 0] 47)).heap.size = w.heap.size + 1 by simp)
  go_enter Tryz.func17, Tryz.ntmps17
  go_wp2_with fail
  refine (l2Bytes_any s _ (by omega)).mono ?_
  rintro e w1 ⟨rfl, hr1, hb1⟩
  obtain ⟨Ss, hSs⟩ : ∃ Ss, bytes4 s = Ss := ⟨_, rfl⟩
  have l1 := hide (show Ss.length = 4 by rw [← hSs]; rfl)
  rw [hSs, unhide hA1] at hr1
  have HSs := hide hSs
  have S1 := hide (slB_row hr1 hr1.lt)
  rw [unhide l1] at S1
  have B1 := hide (bTr (unhide BA) hb1)
  have R1 := hide ((unhide RA).keep hb1)
  clear hr1 hb1 hSs
  go_wp2_with fail
  refine (l2Mac_any _ ad 4 4 ld cd Ss d _ (by decide) h2 (unhide S1) (((unhide HD).keep (unhide B1)).mono (unhide B1).size)).mono ?_
  rintro e w2 ⟨v2, D2, hD2, rfl, ho2, hb2⟩
  have l2 := hide (show D2.length = 16 by rw [unhide hD2]; exact mac_len Ss d)
  obtain ⟨b2, c2, rfl, _, _, _, hs2⟩ := own_some ho2 (by rw [unhide l2]; decide)
  have S2 := hide hs2
  have B2 := hide (bTr (unhide B1) hb2)
  have R2 := hide ((unhide R1).keep hb2)
  clear ho2 hs2 hb2 S1 B1 R1
  go_wp2_with fail
  refine (l2Number_any b2 D2.length c2 D2 _ (by rw [unhide l2]; decide) (by rw [unhide l2]; decide) (unhide S2)).mono ?_
  rintro e w3 ⟨rfl, rfl⟩
  have hn := num_lt D2
  have EK := hide (show 1 + num D2 % 1073741788 = kN s d by unfold kN; rw [unhide hD2, unhide HSs])
  have hkl := kN_lt s d
  generalize num D2 = M at hn EK
  have hkc : (1 : Int) + (M : Int) % 1073741788 = ((kN s d : Nat) : Int) := by rw [← unhide EK]; simp
  have ERk := hide (show pw 4 (kN s d) 2147483579 = rN s d from rfl)
  have hZ := hide (show (kN s d + eN (rN s d) d * s) % 1073741789 = zN s d from rfl)
  generalize kN s d = K at hkl hkc ERk hZ
  go_wp2_with fail
  refine (sPower_any 4 K 2147483579 (by decide) (by decide) (by decide) (by omega) _).mono ?_
  rintro e w4 ⟨rfl, rfl⟩
  rw [unhide ERk]
  have hrl := rN_lt s d
  obtain ⟨R, hR⟩ : ∃ R, rN s d = R := ⟨_, rfl⟩
  rw [hR] at hrl hZ ⊢
  have HRe := hide hR
  clear hR
  go_wp2_with fail
  refine (l2E_any R ad ld cd d _ (by omega) h2 (((unhide HD).keep (unhide B2)).mono (unhide B2).size)).mono ?_
  rintro e w5 ⟨rfl, hb5⟩
  have hel := eN_lt R d
  generalize eN R d = E at hel hZ
  have B5 := hide (bTr (unhide B2) hb5)
  have R5 := hide ((unhide R2).keep hb5)
  have hp := mul_ok hel hs (by decide)
  have c0 := (unhide R5).at (o := 0) (v := .int .i64 0) rfl
  have c1 := (unhide R5).at (o := 1) (v := .int .i64 0) rfl
  have f0 := (unhide R5).froz 0
  have f1 := (unhide R5).froz 1
  clear hb5 B2 R2
  go_wp2_with fail
  have R6 := ((unhide R5).set 0 (.int .i64 (R : Int))).set 1 (.int .i64 (((K : Int) + (E : Int) * (s : Int)) % 1073741789))
  have x0 := R6.at (o := 0) rfl
  have x1 := R6.at (o := 1) rfl
  have hzc : ((K : Int) + (E : Int) * (s : Int)) % 1073741789 = ((zN s d : Nat) : Int) := by rw [← unhide hZ]; simp
  have B6 : Below w.heap.size w ((w5.setCell ⟨w.heap.size, 0, none⟩ (.int .i64 (R : Int))).setCell ⟨w.heap.size, 1, none⟩ (.int .i64 (((K : Int) + (E : Int) * (s : Int)) % 1073741789))) := ((unhide B5).setCell (Nat.le_refl _) _).setCell (Nat.le_refl _) _
  exact bodyPost_ret (v := .agg #[.int .i64 (R : Int), .int .i64 (((K : Int) + (E : Int) * (s : Int)) % 1073741789)]) (by simp [results, Tryz.results17, go_sem, x0, x1]) rfl ⟨by rw [hzc, unhide HRe], B6⟩

end Go.Proofs.YthemcakenammdaaGreatDoor.D
