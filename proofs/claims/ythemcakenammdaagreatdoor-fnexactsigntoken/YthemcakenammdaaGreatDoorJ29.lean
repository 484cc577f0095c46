/- DSgnC, DSgnD, one behind the other. -/
import Derived.Test.YthemcakenammdaaGreatDoorJ28
/- Sign on both sides. -/
namespace Go.Proofs.YthemcakenammdaaGreatDoor.D
set_option maxRecDepth 20000
open Go.RowKit

def kN (s : Nat) (d : List UInt8) : Nat := 1 + num (mac (bytes4 s) d) % 1073741788
theorem kN_lt (s : Nat) (d : List UInt8) : kN s d < 1073741789 := by
  have := Nat.mod_lt (num (mac (bytes4 s) d)) (show 0 < 1073741788 by decide)
  unfold kN; omega
def rN (s : Nat) (d : List UInt8) : Nat := pw 4 (kN s d) 2147483579
theorem rN_lt (s : Nat) (d : List UInt8) : rN s d < 2147483579 := pw_lt _ _ _ (by decide)
def zN (s : Nat) (d : List UInt8) : Nat := (kN s d + eN (rN s d) d * s) % 1073741789
theorem zN_lt (s : Nat) (d : List UInt8) : zN s d < 1073741789 := Nat.mod_lt _ (by decide)
def sigV (r z : Nat) : Value := .agg #[.int .i64 (r : Int), .int .i64 (z : Int)]

set_option maxHeartbeats 1000000 in
theorem l2Sign_any (s : Nat) (ad : Option Addr) (ld cd : Nat) (d : List UInt8) (w : World) (hs : s < 1073741789) (h2 : ld ≤ 1048576) (hd : SlB w w.heap.size ad ld d) :
    Calls Tryz.prog 17 #[.int .i64 s, .slice ad ld cd] w fun e w' => e = .returned (.agg #[.int .i64 (rN s d), .int .i64 (zN s d)]) ∧ Below w.heap.size w w' := by
  have HD := hide hd
  clear hd
  have RA := hide (RowIs.new w #[.int .i64 0, .int .i64 0] 47)
  have BA := hide (bAl (Below.refl w.heap.size w) (.cells #[.int .i64 0, .int .i64 0] 47))
  have hA1 := hide (show (w.alloc (.cells #[.int .i64 0, .int .i64 0] 47)).heap.size = w.heap.size + 1 by simp)
  go_enter Tryz.func17, Tryz.ntmps17
  go_wp2_with fail
  refine (l2Bytes_any s _ (by omega)).mono ?_
  rintro e w1 ⟨rfl, hr1, hb1⟩
  obtain ⟨Ss, hSs⟩ : ∃ Ss, bytes4 s = Ss := ⟨_, rfl⟩
  have l1 := hide (show Ss.length = 4 by rw [← hSs]; rfl)
  rw [hSs, unhide hA1] at hr1
  have HSs := hide hSs
  have S1 := hide (slB_row hr1 hr1.lt)
  rw [unhide l1] at S1
  have B1 := hide (bTr (unhide BA) hb1)
  have R1 := hide ((unhide RA).keep hb1)
  clear hr1 hb1 hSs
  go_wp2_with fail
  refine (l2Mac_any _ ad 4 4 ld cd Ss d _ (by decide) h2 (unhide S1) (((unhide HD).keep (unhide B1)).mono (unhide B1).size)).mono ?_
  rintro e w2 ⟨v2, D2, hD2, rfl, ho2, hb2⟩
  have l2 := hide (show D2.length = 16 by rw [unhide hD2]; exact mac_len Ss d)
  obtain ⟨b2, c2, rfl, _, _, _, hs2⟩ := own_some ho2 (by rw [unhide l2]; decide)
  have S2 := hide hs2
  have B2 := hide (bTr (unhide B1) hb2)
  have R2 := hide ((unhide R1).keep hb2)
  clear ho2 hs2 hb2 S1 B1 R1
  go_wp2_with fail
  refine (l2Number_any b2 D2.length c2 D2 _ (by rw [unhide l2]; decide) (by rw [unhide l2]; decide) (unhide S2)).mono ?_
  rintro e w3 ⟨rfl, rfl⟩
  have hn := num_lt D2
  have EK := hide (show 1 + num D2 % 1073741788 = kN s d by unfold kN; rw [unhide hD2, unhide HSs])
  have hkl := kN_lt s d
  generalize num D2 = M at hn EK
  have hkc : (1 : Int) + (M : Int) % 1073741788 = ((kN s d : Nat) : Int) := by rw [← unhide EK]; simp
  have ERk := hide (show pw 4 (kN s d) 2147483579 = rN s d from rfl)
  have hZ := hide (show (kN s d + eN (rN s d) d * s) % 1073741789 = zN s d from rfl)
  generalize kN s d = K at hkl hkc ERk hZ
  go_wp2_with fail
  refine (sPower_any 4 K 2147483579 (by decide) (by decide) (by decide) (by omega) _).mono ?_
  rintro e w4 ⟨rfl, rfl⟩
  rw [unhide ERk]
  have hrl := rN_lt s d
  obtain ⟨R, hR⟩ : ∃ R, rN s d = R := ⟨_, rfl⟩
  rw [hR] at hrl hZ ⊢
  have HRe := hide hR
  clear hR
  go_wp2_with fail
  refine (l2E_any R ad ld cd d _ (by omega) h2 (((unhide HD).keep (unhide B2)).mono (unhide B2).size)).mono ?_
  rintro e w5 ⟨rfl, hb5⟩
  have hel := eN_lt R d
  generalize eN R d = E at hel hZ
  have B5 := hide (bTr (unhide B2) hb5)
  have R5 := hide ((unhide R2).keep hb5)
  have hp := mul_ok hel hs (by decide)
  have c0 := (unhide R5).at (o := 0) (v := .int .i64 0) rfl
  have c1 := (unhide R5).at (o := 1) (v := .int .i64 0) rfl
  have f0 := (unhide R5).froz 0
  have f1 := (unhide R5).froz 1
  clear hb5 B2 R2
  go_wp2_with fail
  have R6 := ((unhide R5).set 0 (.int .i64 (R : Int))).set 1 (.int .i64 (((K : Int) + (E : Int) * (s : Int)) % 1073741789))
  have x0 := R6.at (o := 0) rfl
  have x1 := R6.at (o := 1) rfl
  have hzc : ((K : Int) + (E : Int) * (s : Int)) % 1073741789 = ((zN s d : Nat) : Int) := by rw [← unhide hZ]; simp
  have B6 : Below w.heap.size w ((w5.setCell ⟨w.heap.size, 0, none⟩ (.int .i64 (R : Int))).setCell ⟨w.heap.size, 1, none⟩ (.int .i64 (((K : Int) + (E : Int) * (s : Int)) % 1073741789))) := ((unhide B5).setCell (Nat.le_refl _) _).setCell (Nat.le_refl _) _
  exact bodyPost_ret (v := .agg #[.int .i64 (R : Int), .int .i64 (((K : Int) + (E : Int) * (s : Int)) % 1073741789)]) (by simp [results, Tryz.results17, go_sem, x0, x1]) rfl ⟨by rw [hzc, unhide HRe], B6⟩

end Go.Proofs.YthemcakenammdaaGreatDoor.D
/- Sign on both sides. -/
namespace Go.Proofs.YthemcakenammdaaGreatDoor.D
set_option maxRecDepth 20000
open Go.RowKit

/-- A signature, or none. -/
def okS (s : Int) (d : List UInt8) : Prop := secB s = true ∧ d.length ≤ 20000
instance (s : Int) (d : List UInt8) : Decidable (okS s d) := by unfold okS; infer_instance
def sgR (s : Int) (d : List UInt8) : Nat := if okS s d then rN s.toNat d else 0
def sgZ (s : Int) (d : List UInt8) : Nat := if okS s d then zN s.toNat d else 0
theorem sg_no {s : Int} {d : List UInt8} (h : ¬ okS s d) : sgR s d = 0 ∧ sgZ s d = 0 := ⟨if_neg h, if_neg h⟩
theorem sg_yes {s : Int} {d : List UInt8} (h : okS s d) : sgR s d = rN s.toNat d ∧ sgZ s d = zN s.toNat d := ⟨if_pos h, if_pos h⟩

set_option maxHeartbeats 1000000 in
theorem iSign_any (s : Int) (ad : Option Addr) (ld cd : Nat) (d : List UInt8) (w : World) (h2 : ld ≤ 1048576) (hd : SlB w w.heap.size ad ld d) (hM : Mults w) :
    Calls Tryz.prog 27 #[.int .i64 s, .slice ad ld cd] w fun e w' => e = .returned (.agg #[.int .i64 (sgR s d), .int .i64 (sgZ s d)]) ∧ Below w.heap.size w w' := by
  have HD := hide hd
  have ed := hide hd.1
  have HM := hide hM
  have h00 := hM.1
  clear hd hM
  have RA := hide (RowIs.new w #[.int .i64 0, .int .i64 0] 47)
  have BA := hide (bAl (Below.refl w.heap.size w) (.cells #[.int .i64 0, .int .i64 0] 47))
  have hA1 := hide (show (w.alloc (.cells #[.int .i64 0, .int .i64 0] 47)).heap.size = w.heap.size + 1 by simp)
  by_cases hok : okS s d
  · obtain ⟨e1, e2⟩ := sg_yes hok
    rw [e1, e2]
    obtain ⟨k, rfl, k1, k2⟩ := secB_nat hok.1
    have HSc := hide hok.1
    have hld : ld ≤ 20000 := by rw [unhide ed]; exact hok.2
    have Hdl := hide hok.2
    clear hok e1 e2
    rw [Int.toNat_natCast]
    go_enter Tryz.func27, Tryz.ntmps27
    go_wp2_with fail
    refine (iSecret_any _ _).mono ?_
    rintro e w' ⟨rfl, rfl⟩
    rw [unhide HSc]
    go_wp2_with fail
    refine (asBytes_any k _).mono ?_
    rintro e w1 ⟨rfl, hr1, hb1⟩
    obtain ⟨Ss, hSs⟩ : ∃ Ss, bytes4 k = Ss := ⟨_, rfl⟩
    have l1 := hide (show Ss.length = 4 by rw [← hSs]; rfl)
    rw [hSs, unhide hA1] at hr1
    have HSs := hide hSs
    have S1 := hide (slB_row hr1 hr1.lt)
    rw [unhide l1] at S1
    have B1 := hide (bTr (unhide BA) hb1)
    have R1 := hide ((unhide RA).keep hb1)
    clear hr1 hb1 hSs
    go_wp2_with fail
    refine (iMac_any _ ad 4 4 ld cd Ss d _ (by decide) h2 (unhide S1) (((unhide HD).keep (unhide B1)).mono (unhide B1).size) ((unhide HM).keepB (unhide B1) h00)).mono ?_
    rintro e w2 ⟨v2, D2, hD2, rfl, ho2, hb2⟩
    have E2 := hide ((unhide hD2).trans (macD_yes ⟨by rw [unhide l1]; decide, unhide Hdl⟩).symm)
    have l2 := hide (show D2.length = 16 by rw [unhide E2]; exact mac_len Ss d)
    obtain ⟨b2, c2, rfl, _, hc2, hcm2, hs2⟩ := own_some ho2 (by rw [unhide l2]; decide)
    have S2 := hide hs2
    have C2 := hide (And.intro hc2 hcm2)
    have B2 := hide (bTr (unhide B1) hb2)
    have R2 := hide ((unhide R1).keep hb2)
    clear ho2 hs2 hb2 S1 B1 R1 hD2 hc2 hcm2
    go_wp2_with fail
    refine (numberOf_any b2 D2.length c2 D2 _ (by rw [unhide l2]; decide) (unhide C2).1 (unhide C2).2 (unhide S2)).mono ?_
    rintro e w3 ⟨rfl, rfl⟩
    have hn := num_lt D2
    have EK := hide (show 1 + num D2 % 1073741788 = kN k d by unfold kN; rw [unhide E2, unhide HSs])
    have hkl := kN_lt k d
    generalize num D2 = M at hn EK
    have hkc : (1 : Int) + (M : Int) % 1073741788 = ((kN k d : Nat) : Int) := by rw [← unhide EK]; simp
    have ERk := hide (show pw 4 (kN k d) 2147483579 = rN k d from rfl)
    have hZ := hide (show (kN k d + eN (rN k d) d * k) % 1073741789 = zN k d from rfl)
    generalize kN k d = K at hkl hkc ERk hZ
    go_wp2_with fail
    refine (iPower_any 4 K 2147483579 (by decide) (by decide) (by decide) (by omega) _).mono ?_
    rintro e w4 ⟨rfl, rfl⟩
    rw [unhide ERk]
    have hrl := rN_lt k d
    obtain ⟨R, hR⟩ : ∃ R, rN k d = R := ⟨_, rfl⟩
    rw [hR] at hrl hZ ⊢
    have HRe := hide hR
    clear hR
    go_wp2_with fail
    refine (boundTo_any R ad ld cd d _ hld (((unhide HD).keep (unhide B2)).mono (unhide B2).size) ((unhide HM).keepB (unhide B2) h00)).mono ?_
    rintro e w5 ⟨rfl, hb5⟩
    have hel := eN_lt R d
    generalize eN R d = E at hel hZ
    have B5 := hide (bTr (unhide B2) hb5)
    have R5 := hide ((unhide R2).keep hb5)
    have hp := mul_ok hel k2 (by decide)
    have c0 := (unhide R5).at (o := 0) (v := .int .i64 0) rfl
    have c1 := (unhide R5).at (o := 1) (v := .int .i64 0) rfl
    have f0 := (unhide R5).froz 0
    have f1 := (unhide R5).froz 1
    clear hb5 B2 R2
    go_wp2_with fail
    have R6 := ((unhide R5).set 0 (.int .i64 (R : Int))).set 1 (.int .i64 (((K : Int) + (E : Int) * (k : Int)) % 1073741789))
    have x0 := R6.at (o := 0) rfl
    have x1 := R6.at (o := 1) rfl
    have hzc : ((K : Int) + (E : Int) * (k : Int)) % 1073741789 = ((zN k d : Nat) : Int) := by rw [← unhide hZ]; simp
    have B6 : Below w.heap.size w ((w5.setCell ⟨w.heap.size, 0, none⟩ (.int .i64 (R : Int))).setCell ⟨w.heap.size, 1, none⟩ (.int .i64 (((K : Int) + (E : Int) * (k : Int)) % 1073741789))) := ((unhide B5).setCell (Nat.le_refl _) _).setCell (Nat.le_refl _) _
    exact bodyPost_ret (v := .agg #[.int .i64 (R : Int), .int .i64 (((K : Int) + (E : Int) * (k : Int)) % 1073741789)]) (by simp [results, Tryz.results27, go_sem, x0, x1]) rfl ⟨by rw [hzc, unhide HRe], B6⟩
  · obtain ⟨e1, e2⟩ := sg_no hok
    rw [e1, e2]
    clear e1 e2
    have c0 := (unhide RA).at (o := 0) (v := .int .i64 0) rfl
    have c1 := (unhide RA).at (o := 1) (v := .int .i64 0) rfl
    have f0 := (unhide RA).froz 0
    have f1 := (unhide RA).froz 1
    cases hsec : secB s
    · have HSc := hide hsec
      clear hsec hok
      go_enter Tryz.func27, Tryz.ntmps27
      go_wp2_with fail
      refine (iSecret_any _ _).mono ?_
      rintro e w' ⟨rfl, rfl⟩
      rw [unhide HSc]
      go_wp2_with fail
      exact bodyPost_ret (v := .agg #[.int .i64 0, .int .i64 0]) (by simp [results, Tryz.results27, go_sem, c0, c1]) rfl ⟨rfl, unhide BA⟩
    · have hld : 20000 < ld := by rw [unhide ed]; unfold okS at hok; rw [hsec] at hok; simp at hok; exact hok
      have HSc := hide hsec
      clear hsec hok
      go_enter Tryz.func27, Tryz.ntmps27
      go_wp2_with fail
      refine (iSecret_any _ _).mono ?_
      rintro e w' ⟨rfl, rfl⟩
      rw [unhide HSc]
      go_wp2_with fail
      exact bodyPost_ret (v := .agg #[.int .i64 0, .int .i64 0]) (by simp [results, Tryz.results27, go_sem, c0, c1]) rfl ⟨rfl, unhide BA⟩

end Go.Proofs.YthemcakenammdaaGreatDoor.D
