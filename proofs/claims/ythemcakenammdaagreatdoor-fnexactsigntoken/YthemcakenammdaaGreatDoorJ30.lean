/- DSgnD, DArmP, one behind the other. -/
import Derived.Test.YthemcakenammdaaGreatDoorJ29
/- Sign on both sides. -/
namespace Go.Proofs.YthemcakenammdaaGreatDoor.D
set_option maxRecDepth 20000
open Go.RowKit

/-- A signature, or none. -/
def okS (s : Int) (d : List UInt8) : Prop := secB s = true ∧ d.length ≤ 20000
instance (s : Int) (d : List UInt8) : Decidable (okS s d) := by unfold okS; infer_instance
def sgR (s : Int) (d : List UInt8) : Nat := if okS s d then rN s.toNat d else 0
def sgZ (s : Int) (d : List UInt8) : Nat := if okS s d then zN s.toNat d else 0
theorem sg_no {s : Int} {d : List UInt8} (h : ¬ okS s d) : sgR s d = 0 ∧ sgZ s d = 0 := ⟨if_neg h, if_neg h⟩
theorem sg_yes {s : Int} {d : List UInt8} (h : okS s d) : sgR s d = rN s.toNat d ∧ sgZ s d = zN s.toNat d := ⟨if_pos h, if_pos h⟩

set_option maxHeartbeats 1000000 in
theorem iSign_any (s : Int) (ad : Option Addr) (ld cd : Nat) (d : List UInt8) (w : World) (h2 : ld ≤ 1048576) (hd : SlB w w.heap.size ad ld d) (hM : Mults w) :
    Calls Tryz.prog 27 #[.int .i64 s, .slice ad ld cd] w fun e w' => e = .returned (.agg #[.int .i64 (sgR s d), .int .i64 (sgZ s d)]) ∧ Below w.heap.size w w' := by
  have HD := hide hd
  have ed := hide hd.1
  have HM := hide hM
  have h00 := hM.1
  clear hd hM
  have RA := hide (RowIs.new w #[.int .i64 0, .int .i64 0] 47)
  have BA := hide (bAl (Below.refl w.heap.size w) (.cells #[.int .i64 0, .int .i64 0] 47))
  have hA1 := hide (show (w.alloc (.cells #[.int .i64 0, .int .i64 0] 47)).heap.size = w.heap.size + 1 by simp)
  by_cases hok : okS s d
  · obtain ⟨e1, e2⟩ := sg_yes hok
    rw [e1, e2]
    obtain ⟨k, rfl, k1, k2⟩ := secB_nat hok.1
    have HSc := hide hok.1
    have hld : ld ≤ 20000 := by rw [unhide ed]; exact hok.2
    have Hdl := hide hok.2
    clear hok e1 e2
    rw [Int.toNat_natCast]
    go_enter Tryz.func27, Tryz.ntmps27
    go_wp2_with fail
    refine (iSecret_any _ _).mono ?_
    rintro e w' ⟨rfl, rfl⟩
    rw [unhide HSc]
    go_wp2_with fail
    refine (asBytes_any k _).mono ?_
    rintro e w1 ⟨rfl, hr1, hb1⟩
    obtain ⟨Ss, hSs⟩ : ∃ Ss, bytes4 k = Ss := ⟨_, rfl⟩
    have l1 := hide (show Ss.length = 4 by rw [← hSs]; rfl)
    rw [hSs, unhide hA1] at hr1
    have HSs := hide hSs
    have S1 := hide (slB_row hr1 hr1.lt)
    rw [unhide l1] at S1
    have B1 := hide (bTr (unhide BA) hb1)
    have R1 := hide ((unhide RA).keep hb1)
    clear hr1 hb1 hSs
    go_wp2_with fail
    refine (iMac_any _ ad 4 4 ld cd Ss d _ (by decide) h2 (unhide S1) (((unhide HD).keep (unhide B1)).mono (unhide B1).size) ((unhide HM).keepB (unhide B1) h00)).mono ?_
    rintro e w2 ⟨v2, D2, hD2, rfl, ho2, hb2⟩
    have E2 := hide ((unhide hD2).trans (macD_yes ⟨by rw [unhide l1]; decide, unhide Hdl⟩).symm)
    have l2 := hide (show D2.length = 16 by rw [unhide E2]; exact mac_len Ss d)
    obtain ⟨b2, c2, rfl, _, hc2, hcm2, hs2⟩ := own_some ho2 (by rw [unhide l2]; decide)
    have S2 := hide hs2
    have C2 := hide (And.intro hc2 hcm2)
    have B2 := hide (bTr (unhide B1) hb2)
    have R2 := hide ((unhide R1).keep hb2)
    clear ho2 hs2 hb2 S1 B1 R1 hD2 hc2 hcm2
    go_wp2_with fail
    refine (numberOf_any b2 D2.length c2 D2 _ (by rw [unhide l2]; decide) (unhide C2).1 (unhide C2).2 (unhide S2)).mono ?_
    rintro e w3 ⟨rfl, rfl⟩
    have hn := num_lt D2
    have EK := hide (show 1 + num D2 % 1073741788 = kN k d by unfold kN; rw [unhide E2, unhide HSs])
    have hkl := kN_lt k d
    generalize num D2 = M at hn EK
    have hkc : (1 : Int) + (M : Int) % 1073741788 = ((kN k d : Nat) : Int) := by rw [← unhide EK]; simp
    have ERk := hide (show pw 4 (kN k d) 2147483579 = rN k d from rfl)
    have hZ := hide (show (kN k d + eN (rN k d) d * k) % 1073741789 = zN k d from rfl)
    generalize kN k d = K at hkl hkc ERk hZ
    go_wp2_with fail
    refine (iPower_any 4 K 2147483579 (by decide) (by decide) (by decide) (by omega) _).mono ?_
    rintro e w4 ⟨rfl, rfl⟩
    rw [unhide ERk]
    have hrl := rN_lt k d
    obtain ⟨R, hR⟩ : ∃ R, rN k d = R := ⟨_, rfl⟩
    rw [hR] at hrl hZ ⊢
    have HRe := hide hR
    clear hR
    go_wp2_with fail
    refine (boundTo_any R ad ld cd d _ hld (((unhide HD).keep (unhide B2)).mono (unhide B2).size) ((unhide HM).keepB (unhide B2) h00)).mono ?_
    rintro e w5 ⟨rfl, hb5⟩
    have hel := eN_lt R d
    generalize eN R d = E at hel hZ
    have B5 := hide (bTr (unhide B2) hb5)
    have R5 := hide ((unhide R2).keep hb5)
    have hp := mul_ok hel k2 (by decide)
    have c0 := (unhide R5).at (o := 0) (v := .int .i64 0) rfl
    have c1 := (unhide R5).at (o := 1) (v := .int .i64 0) rfl
    have f0 := (unhide R5).froz 0
    have f1 := (unhide R5).froz 1
    clear hb5 B2 R2
    go_wp2_with fail
    have R6 := ((unhide R5).set 0 (.int .i64 (R : Int))).set 1 (.int .i64 (((K : Int) + (E : Int) * (k : Int)) % 1073741789))
    have x0 := R6.at (o := 0) rfl
    have x1 := R6.at (o := 1) rfl
    have hzc : ((K : Int) + (E : Int) * (k : Int)) % 1073741789 = ((zN k d : Nat) : Int) := by rw [← unhide hZ]; simp
    have B6 : Below w.heap.size w ((w5.setCell ⟨w.heap.size, 0, none⟩ (.int .i64 (R : Int))).setCell ⟨w.heap.size, 1, none⟩ (.int .i64 (((K : Int) + (E : Int) * (k : Int)) % 1073741789))) := ((unhide B5).setCell (Nat.le_refl _) _).setCell (Nat.le_refl _) _
    exact bodyPost_ret (v := .agg #[.int .i64 (R : Int), .int .i64 (((K : Int) + (E : Int) * (k : Int)) % 1073741789)]) (by simp [results, Tryz.results27, go_sem, x0, x1]) rfl ⟨by rw [hzc, unhide HRe], B6⟩
  · obtain ⟨e1, e2⟩ := sg_no hok
    rw [e1, e2]
    clear e1 e2
    have c0 := (unhide RA).at (o := 0) (v := .int .i64 0) rfl
    have c1 := (unhide RA).at (o := 1) (v := .int .i64 0) rfl
    have f0 := (unhide RA).froz 0
    have f1 := (unhide RA).froz 1
    cases hsec : secB s
    · have HSc := hide hsec
      clear hsec hok
      go_enter Tryz.func27, Tryz.ntmps27
      go_wp2_with fail
      refine (iSecret_any _ _).mono ?_
      rintro e w' ⟨rfl, rfl⟩
      rw [unhide HSc]
      go_wp2_with fail
      exact bodyPost_ret (v := .agg #[.int .i64 0, .int .i64 0]) (by simp [results, Tryz.results27, go_sem, c0, c1]) rfl ⟨rfl, unhide BA⟩
    · have hld : 20000 < ld := by rw [unhide ed]; unfold okS at hok; rw [hsec] at hok; simp at hok; exact hok
      have HSc := hide hsec
      clear hsec hok
      go_enter Tryz.func27, Tryz.ntmps27
      go_wp2_with fail
      refine (iSecret_any _ _).mono ?_
      rintro e w' ⟨rfl, rfl⟩
      rw [unhide HSc]
      go_wp2_with fail
      exact bodyPost_ret (v := .agg #[.int .i64 0, .int .i64 0]) (by simp [results, Tryz.results27, go_sem, c0, c1]) rfl ⟨rfl, unhide BA⟩

end Go.Proofs.YthemcakenammdaaGreatDoor.D
/- The armour, as lists. -/
namespace Go.Proofs.YthemcakenammdaaGreatDoor.D

/-- The letters. -/
def letL : List UInt8 := [48, 49, 50, 51, 52, 53, 54, 55, 56, 57, 97, 98, 99, 100, 101, 102, 103, 104, 105, 106, 107, 108, 109, 110, 111, 112, 113, 114, 115, 116, 117, 118]
def letOf (n : Nat) : UInt8 := letL.getD n 0
/-- Bit k of the data, the highest of the first byte first; 0 behind the end. -/
def bit (l : List UInt8) (k : Nat) : Nat := (l.getD (k / 8) 0).toNat / 2 ^ (7 - k % 8) % 2
theorem bit_lt (l : List UInt8) (k : Nat) : bit l k < 2 := Nat.mod_lt _ (by decide)
/-- t bits from b on, as a number. -/
def pre (l : List UInt8) (b : Nat) : Nat → Nat
  | 0 => 0
  | t + 1 => 2 * pre l b t + bit l (b + t)
theorem pre_lt (l : List UInt8) (b t : Nat) : pre l b t < 2 ^ t := by
  induction t with
  | zero => simp [pre]
  | succ t ih => have := bit_lt l (b + t); rw [Nat.pow_succ]; simp only [pre]; omega
def five (l : List UInt8) (b : Nat) : Nat := pre l b 5
theorem five_lt (l : List UInt8) (b : Nat) : five l b < 32 := pre_lt l b 5
/-- How many letters. -/
def many (n : Nat) : Nat := (8 * n + 4) / 5
def arm (l : List UInt8) : List UInt8 := (List.range (many l.length)).map fun i => letOf (five l (5 * i))
theorem arm_len (l : List UInt8) : (arm l).length = many l.length := by simp [arm]
theorem arm_get (l : List UInt8) (i : Nat) (h : i < (arm l).length) : (arm l)[i] = letOf (five l (5 * i)) := by simp [arm]
theorem bit_app (p r : List UInt8) (hp : p.length = 5) (k : Nat) : bit (p ++ r) (40 + k) = bit r k := by
  unfold bit
  have h1 : (40 + k) / 8 = 5 + k / 8 := by omega
  have h2 : (40 + k) % 8 = k % 8 := by omega
  rw [h1, h2]
  congr 3
  rw [List.getD_eq_getElem?_getD, List.getD_eq_getElem?_getD, List.getElem?_append_right (by omega)]
  congr 2; omega
theorem bit_app_lt (p r : List UInt8) (hp : p.length = 5) (k : Nat) (hk : k < 40) : bit (p ++ r) k = bit p k := by
  unfold bit
  congr 3
  rw [List.getD_eq_getElem?_getD, List.getD_eq_getElem?_getD, List.getElem?_append_left (by omega)]
theorem pre_app (p r : List UInt8) (hp : p.length = 5) (b t : Nat) : pre (p ++ r) (40 + b) t = pre r b t := by
  induction t with
  | zero => rfl
  | succ t ih => simp only [pre]; rw [ih, Nat.add_assoc, bit_app p r hp]
theorem pre_app_lt (p r : List UInt8) (hp : p.length = 5) (b t : Nat) (h : b + t ≤ 40) : pre (p ++ r) b t = pre p b t := by
  induction t with
  | zero => rfl
  | succ t ih => simp only [pre]; rw [ih (by omega), bit_app_lt p r hp _ (by omega)]
theorem arm_app (p r : List UInt8) (hp : p.length = 5) : arm (p ++ r) = arm p ++ arm r := by
  apply List.ext_getElem
  · rw [List.length_append, arm_len, arm_len, arm_len, List.length_append, hp]; unfold many; omega
  · intro i h1 h2
    rw [arm_get]
    by_cases hi : i < 8
    · have h8 : i < (arm p).length := by rw [arm_len, hp]; exact hi
      rw [List.getElem_append_left h8, arm_get]
      unfold five
      rw [pre_app_lt p r hp _ _ (by omega)]
    · have h8 : (arm p).length = 8 := by rw [arm_len, hp]; rfl
      rw [List.getElem_append_right (by omega), arm_get]
      unfold five
      rw [← pre_app p r hp]
      congr 2; omega
theorem many_zero : many 0 = 0 := rfl
theorem arm_nil : arm [] = [] := rfl
theorem many_lt (n i : Nat) : i < many n ↔ 5 * i < 8 * n := by unfold many; omega

/-- The bytes of a part in one number. -/
def val (l : List UInt8) (t : Nat) : Nat := match t with
  | 0 => 0
  | t + 1 => val l t + (l.getD t 0).toNat * 2 ^ (8 * (4 - t))
set_option maxHeartbeats 4000000 in
theorem val_five (l : List UInt8) (i : Nat) (hi : i < 8) : val l 5 / 2 ^ (35 - 5 * i) % 32 = five l (5 * i) := by
  have h0 := (l.getD 0 0).toNat_lt
  have h1 := (l.getD 1 0).toNat_lt
  have h2 := (l.getD 2 0).toNat_lt
  have h3 := (l.getD 3 0).toNat_lt
  have h4 := (l.getD 4 0).toNat_lt
  have hc : i = 0 ∨ i = 1 ∨ i = 2 ∨ i = 3 ∨ i = 4 ∨ i = 5 ∨ i = 6 ∨ i = 7 := by omega
  rcases hc with rfl | rfl | rfl | rfl | rfl | rfl | rfl | rfl
  all_goals
    simp only [val, five, pre, bit, Nat.reduceMul, Nat.reduceAdd, Nat.reduceDiv, Nat.reduceMod, Nat.reduceSub, Nat.reducePow]
    generalize (l.getD 0 0).toNat = b0 at *
    generalize (l.getD 1 0).toNat = b1 at *
    generalize (l.getD 2 0).toNat = b2 at *
    generalize (l.getD 3 0).toNat = b3 at *
    generalize (l.getD 4 0).toNat = b4 at *
    omega
theorem val_lt (l : List UInt8) (t : Nat) (ht : t ≤ 5) : val l t < 2 ^ 40 := by
  have h0 := (l.getD 0 0).toNat_lt
  have h1 := (l.getD 1 0).toNat_lt
  have h2 := (l.getD 2 0).toNat_lt
  have h3 := (l.getD 3 0).toNat_lt
  have h4 := (l.getD 4 0).toNat_lt
  have hc : t = 0 ∨ t = 1 ∨ t = 2 ∨ t = 3 ∨ t = 4 ∨ t = 5 := by omega
  rcases hc with rfl | rfl | rfl | rfl | rfl | rfl
  all_goals
    simp only [val, Nat.reduceMul, Nat.reduceSub, Nat.reducePow]
    omega
/-- What is there so far has no bit of the next byte or below it. -/
theorem val_low (l : List UInt8) (t : Nat) (ht : t < 5) : val l t % 2 ^ (8 * (4 - t) + 8) = 0 := by
  have hc : t = 0 ∨ t = 1 ∨ t = 2 ∨ t = 3 ∨ t = 4 := by omega
  rcases hc with rfl | rfl | rfl | rfl | rfl
  all_goals
    simp only [val, Nat.reduceMul, Nat.reduceSub, Nat.reducePow, Nat.reduceAdd]
    try omega
theorem val_end (l : List UInt8) (n : Nat) (hn : l.length ≤ n) (h5 : n ≤ 5) : val l 5 = val l n := by
  have key : ∀ t, n ≤ t → val l t = val l n := by
    intro t
    induction t with
    | zero => intro h; obtain rfl : n = 0 := by omega
              rfl
    | succ t ih =>
      intro h
      by_cases e : n = t + 1
      · rw [e]
      · rw [← ih (by omega)]
        simp only [val]
        rw [List.getD_eq_getElem?_getD, List.getElem?_eq_none (by omega)]
        simp
  exact key 5 h5
end Go.Proofs.YthemcakenammdaaGreatDoor.D
