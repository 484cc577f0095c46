/- spec.l7Token, spec.TokenOf, impl.TokenOf. -/
import Derived.Test.YtfbkaoepopmggaaDoorDMac
import Derived.Test.YtfbkaoepopmggaaDoorDArmJ
import Derived.Test.YtfbkaoepopmggaaDoorQQuo
namespace Go.Proofs.YtfbkaoepopmggaaDoor.D
open Go.RowKit
set_option maxRecDepth 20000

/-- '[]byte(s)': a new row of the call's own, its cells the bytes of s. -/
theorem conv_bytes (s : ByteArray) (w : World) : ∃ cap w1, (convert 9 22 (.string s)).run Tryd.prog w = .ok (.slice (some ⟨w.heap.size, 0, none⟩) s.size cap) w1 ∧ Below w.heap.size w w1 ∧ SlB w1 w1.heap.size (some ⟨w.heap.size, 0, none⟩) s.size s.data.toList := by
  refine ⟨_, _, run_bytes_of_string (P := Tryd.prog) w 9 22 5 s Tryd.underlying9 Tryd.underlying22 Tryd.underlying5, ((Below.refl _ _).drew).alloc (Nat.le_refl _) _, ?_⟩
  have e : s.size = s.data.toList.length := by show s.data.size = _; simp
  refine ⟨e, .inr ⟨_, 0, rfl, by simp, by simp, ?_⟩⟩
  intro j h
  have h' : w.drew.heap.size = w.heap.size := rfl
  have h2 : j < s.data.size := by simpa using h
  rw [← h', Nat.zero_add, World.cell?_alloc_mark]
  unfold bytesRow
  rw [Array.getElem?_append_left (by simpa using h2)]
  simp only [Array.getElem?_map, Array.getElem?_eq_getElem h2, Option.map_some]
  rfl

def tokH (rev : Int) : ByteArray := (⟨#[114]⟩ : ByteArray) ++ ⟨(Lib.itoa rev).toArray⟩
def tokB (s : Nat) (rev : Int) : List UInt8 := (mac (bytes4 s) (tokH rev).data.toList).take 8
def tok (s : Nat) (rev : Int) : ByteArray := tokH rev ++ (⟨#[46]⟩ : ByteArray) ++ ⟨(arm (tokB s rev)).toArray⟩
def tokT (s rev : Int) : ByteArray := if secB s = true ∧ 0 ≤ rev ∧ rev ≤ 1000000 then tok s.toNat rev else ⟨#[]⟩

theorem itoaB (n : Int) (h0 : -9223372036854775808 ≤ n) (h1 : n ≤ 9223372036854775807) : (⟨(Lib.itoa n).toArray⟩ : ByteArray).size ≤ 21 := by
  have := Lib.itoa_length_le n h0 h1
  show (Lib.itoa n).toArray.size ≤ 21
  simpa using this
theorem SlB.front {B : Nat} {w : World} {a : Option Addr} {len n : Nat} {l : List UInt8} (h : SlB w B a len l) (hn : n ≤ len) : SlB w B a n (l.take n) := by
  refine ⟨by rw [List.length_take, ← h.1]; omega, ?_⟩
  rcases h.2 with e | ⟨b, off, e, z, r⟩
  · left; rw [e]; simp
  · refine .inr ⟨b, off, e, z, r.z, fun i hi => ?_⟩
    have hi' : i < l.length := by simp at hi; omega
    rw [r.c i hi']
    simp
theorem row_slB {w : World} {b : Nat} {l : List UInt8} (h : RowIs w b (cellsOf l) 5) : SlB w w.heap.size (some ⟨b, 0, none⟩) l.length l := by
  refine ⟨rfl, .inr ⟨b, 0, rfl, h.lt, h.lt, fun i hi => ?_⟩⟩
  rw [Nat.zero_add, h.cell]
  simp [cellsOf, hi]

set_option maxHeartbeats 1000000 in
theorem l7Token_any (s : Nat) (rev : Int) (w : World) (hs : s < 1073741789) (h0 : -9223372036854775808 ≤ rev) (h1 : rev ≤ 9223372036854775807) :
    Calls Tryd.prog 21 #[.int .i64 (s : Int), .int .i64 rev] w fun e w' => e = .returned (.string (tok s rev)) ∧ Below w.heap.size w w' := by
  have zI := itoaB rev h0 h1
  have qI := hide (fun w => l1Num_any rev w h0 h1)
  have eT := hide (show tok s rev = tokH rev ++ (⟨#[46]⟩ : ByteArray) ++ ⟨(arm (tokB s rev)).toArray⟩ from rfl)
  have eB := hide (show tokB s rev = (mac (bytes4 s) (tokH rev).data.toList).take 8 from rfl)
  have eH := hide (show (⟨#[114]⟩ : ByteArray) ++ ⟨(Lib.itoa rev).toArray⟩ = tokH rev from rfl)
  have zH : (tokH rev).size ≤ 22 := by unfold tokH; rw [ByteArray.size_append]; show 1 + _ ≤ _; omega
  have zA : (⟨(arm (tokB s rev)).toArray⟩ : ByteArray).size ≤ 100 := by
    show (arm (tokB s rev)).toArray.size ≤ 100
    have h8 : (tokB s rev).length ≤ 8 := by unfold tokB; rw [List.length_take]; omega
    simp only [List.size_toArray, arm_len, many]
    omega
  generalize tok s rev = T at eT ⊢
  generalize tokB s rev = TB at eT eB zA
  generalize tokH rev = TH at eT eB eH zH
  generalize (⟨(Lib.itoa rev).toArray⟩ : ByteArray) = I at zI qI eH
  have k1 : ¬ 9223372036854775806 < I.size := by omega
  go_enter Tryd.func21, Tryd.ntmps21
  go_wp2_with fail
  refine (unhide qI _).mono ?_
  rintro e w1 ⟨rfl, hb1⟩
  have B1 := hide hb1
  clear hb1 qI
  go_wp2_with fail
  rw [unhide eH]
  refine (l2Bytes_any s _ (by omega)).mono ?_
  rintro e w2 ⟨rfl, hr2, hb2⟩
  obtain ⟨cap, w3, cv, hb3, hs3⟩ := conv_bytes TH w2
  have R2 := hide (((row_slB hr2).keep hb3).mono hb3.size)
  have S3 := hide hs3
  have B3 := hide (bTr (bTr (unhide B1) hb2) hb3)
  clear hb2 hb3 hr2 hs3 B1
  go_wp2_with fail
  refine (l2Mac_any _ _ 4 _ TH.size _ (bytes4 s) TH.data.toList _ (by omega) (by omega) (unhide R2) (unhide S3)).mono ?_
  rintro e w4 ⟨v, D, hD, rfl, hown, hb4⟩
  have B4 := hide (bTr (unhide B3) hb4)
  have zD : D.length = 16 := by rw [unhide hD]; exact mac_len _ _
  obtain ⟨b, cap4, rfl, hbz, hc4, hcm4, sl4⟩ := own_some hown (by omega)
  have S4 := hide (sl4.front (n := 8) (by omega))
  have eD := hide (show D.take 8 = TB by rw [unhide eB, unhide hD])
  rw [zD] at hc4 ⊢
  unfold maxLen at hcm4
  clear hb4 B3 hown R2 S3 sl4 hD cv hbz
  go_wp2_with fail
  refine (l2Armor_any _ 8 _ TB _ (by omega) ((unhide eD) ▸ unhide S4)).mono ?_
  rintro e w5 ⟨rfl, hb5⟩
  have B5 := hide (bTr (unhide B4) hb5)
  clear hb5 B4 S4 eD
  have k2 : ¬ 9223372036854775806 < TH.size := by omega
  generalize (⟨(arm TB).toArray⟩ : ByteArray) = AR at eT zA ⊢
  go_wp2_with fail
  go_ret
  exact ⟨by rw [unhide eT]; rfl, unhide B5⟩

theorem sTokenOf_any (s rev : Int) (w : World) (h0 : -9223372036854775808 ≤ rev) (h1 : rev ≤ 9223372036854775807) :
    Calls Tryd.prog 8 #[.int .i64 s, .int .i64 rev] w fun e w' => e = .returned (.string (tokT s rev)) ∧ Below w.heap.size w w' := by
  by_cases hg : secB s = true ∧ 0 ≤ rev ∧ rev ≤ 1000000
  · have eT := hide (show tokT s rev = tok s.toNat rev from if_pos hg)
    obtain ⟨h2, h3, h4⟩ := hg
    obtain ⟨k, rfl, hk1, hk2⟩ := secB_nat h2
    have q := hide (fun w => l7Token_any k rev w hk2 h0 h1)
    rw [Int.toNat_natCast] at eT
    generalize tokT (k : Int) rev = T at eT ⊢
    generalize tok k rev = T2 at eT q
    have n3 : ¬ rev < 0 := by omega
    go_enter Tryd.func8, Tryd.ntmps8
    go_wp2_with fail
    refine (sSecret_any _ _).mono ?_
    rintro e w1 ⟨rfl, rfl⟩
    rw [h2]
    go_wp2_with fail
    refine (unhide q _).mono ?_
    rintro e w1 ⟨rfl, hb1⟩
    go_wp2_with fail
    go_ret
    exact ⟨by rw [unhide eT]; rfl, hb1⟩
  · have eT := hide (show tokT s rev = ⟨#[]⟩ from if_neg hg)
    generalize tokT s rev = T at eT ⊢
    go_enter Tryd.func8, Tryd.ntmps8
    go_wp2_with fail
    refine (sSecret_any _ _).mono ?_
    rintro e w1 ⟨rfl, rfl⟩
    cases hsb : secB s with
    | false =>
      go_wp2_with fail
      go_ret
      exact ⟨by rw [unhide eT]; rfl, Below.refl _ _⟩
    | true =>
      have h5 : rev < 0 ∨ (¬ rev < 0 ∧ 1000000 < rev) := by
        by_cases h6 : rev < 0
        · exact .inl h6
        · exact .inr ⟨h6, by apply Classical.byContradiction; intro h7; exact hg ⟨hsb, by omega, by omega⟩⟩
      rcases h5 with h5 | ⟨h5, h6⟩
      · go_wp2_with fail
        go_ret
        exact ⟨by rw [unhide eT]; rfl, Below.refl _ _⟩
      · go_wp2_with fail
        go_ret
        exact ⟨by rw [unhide eT]; rfl, Below.refl _ _⟩

set_option maxHeartbeats 1000000 in
theorem iTokenOf_any (s rev : Int) (w : World) (h0 : -9223372036854775808 ≤ rev) (h1 : rev ≤ 9223372036854775807) (hM : Mults w) (hT : Tab w) :
    Calls Tryd.prog 7 #[.int .i64 s, .int .i64 rev] w fun e w' => e = .returned (.string (tokT s rev)) ∧ Below w.heap.size w w' := by
  by_cases hg : secB s = true ∧ 0 ≤ rev ∧ rev ≤ 1000000
  · have eT := hide (show tokT s rev = tok s.toNat rev from if_pos hg)
    obtain ⟨h2, h3, h4⟩ := hg
    obtain ⟨k, rfl, hk1, hk2⟩ := secB_nat h2
    rw [Int.toNat_natCast] at eT
    have zI := itoaB rev h0 h1
    have qI := hide (fun w h => itoa_any rev w h0 h1 h)
    have eB := hide (show tokB k rev = (mac (bytes4 k) (tokH rev).data.toList).take 8 from rfl)
    have eH := hide (show (⟨#[114]⟩ : ByteArray) ++ ⟨(Lib.itoa rev).toArray⟩ = tokH rev from rfl)
    have e2 := hide (show tok k rev = tokH rev ++ (⟨#[46]⟩ : ByteArray) ++ ⟨(arm (tokB k rev)).toArray⟩ from rfl)
    have zH : (tokH rev).size ≤ 22 := by unfold tokH; rw [ByteArray.size_append]; show 1 + _ ≤ _; omega
    have z8 : (tokB k rev).length ≤ 8 := by unfold tokB; rw [List.length_take]; omega
    have zA : (⟨(arm (tokB k rev)).toArray⟩ : ByteArray).size ≤ 100 := by
      show (arm (tokB k rev)).toArray.size ≤ 100
      simp only [List.size_toArray, arm_len, many]
      omega
    generalize tokT (k : Int) rev = T at eT ⊢
    generalize tok k rev = T2 at eT e2
    generalize tokB k rev = TB at e2 eB zA z8
    generalize tokH rev = TH at e2 eB eH zH
    generalize (⟨(Lib.itoa rev).toArray⟩ : ByteArray) = I at zI qI eH
    have k1 : ¬ 9223372036854775806 < I.size := by omega
    have n3 : ¬ rev < 0 := by omega
    have HM := hide hM
    have HT := hide hT
    clear hM hT
    go_enter Tryd.func7, Tryd.ntmps7
    go_wp2_with fail
    refine (iSecret_any _ _).mono ?_
    rintro e w1 ⟨rfl, rfl⟩
    rw [h2]
    go_wp2_with fail
    refine (unhide qI _ (unhide HT)).mono ?_
    rintro e w1 ⟨rfl, hb1⟩
    have B1 := hide hb1
    replace HM := hide ((unhide HM).keepB hb1 (unhide HM).1)
    clear hb1 qI HT
    go_wp2_with fail
    rw [unhide eH]
    refine (asBytes_any k _).mono ?_
    rintro e w2 ⟨rfl, hr2, hb2⟩
    obtain ⟨cap, w3, cv, hb3, hs3⟩ := conv_bytes TH w2
    have R2 := hide (((row_slB hr2).keep hb3).mono hb3.size)
    have S3 := hide hs3
    replace HM := hide ((unhide HM).keepB (bTr hb2 hb3) (unhide HM).1)
    have B3 := hide (bTr (bTr (unhide B1) hb2) hb3)
    clear hb2 hb3 hr2 hs3 B1
    go_wp2_with fail
    refine (iMac_any _ _ 4 _ TH.size _ (bytes4 k) TH.data.toList _ (by omega) (by omega) (unhide R2) (unhide S3) (unhide HM)).mono ?_
    rintro e w4 ⟨v, D, hD, rfl, hown, hb4⟩
    have B4 := hide (bTr (unhide B3) hb4)
    have hD2 : D = mac (bytes4 k) TH.data.toList := by
      rw [unhide hD]
      refine (macD_yes ⟨by simp [bytes4], ?_⟩).symm
      have : TH.data.toList.length = TH.size := by show _ = TH.data.size; simp
      omega
    have zD : D.length = 16 := by rw [hD2]; exact mac_len _ _
    obtain ⟨b, cap4, rfl, hbz, hc4, hcm4, sl4⟩ := own_some hown (by omega)
    have eD := hide (show D.take 8 = TB by rw [unhide eB, hD2])
    have S4 := hide (show SlB w4 w4.heap.size (some ⟨b, 0, none⟩) 8 TB by rw [← unhide eD]; exact sl4.front (n := 8) (by omega))
    rw [zD] at hc4 ⊢
    unfold maxLen at hcm4
    have q5 := hide (fun c (hc : 8 ≤ c) (hcm : c ≤ maxLen) => iArmor_any (some ⟨b, 0, none⟩) 8 c TB w4 (by unfold maxLen; omega) hc hcm (unhide S4))
    have eA : armD TB = arm TB := by
      unfold armD
      rw [if_pos (by omega)]
    rw [eA] at q5
    clear hb4 B3 hown R2 S3 sl4 hD hD2 cv hbz eD HM eA
    go_wp2_with fail
    refine (unhide q5 _ (by omega) (by unfold maxLen; omega)).mono ?_
    rintro e w5 ⟨rfl, hb5⟩
    have B5 := hide (bTr (unhide B4) hb5)
    clear hb5 B4 S4 q5
    have k2 : ¬ 9223372036854775806 < TH.size := by omega
    generalize (⟨(arm TB).toArray⟩ : ByteArray) = AR at e2 zA ⊢
    go_wp2_with fail
    go_ret
    exact ⟨by rw [unhide eT, unhide e2]; rfl, unhide B5⟩
  · have eT := hide (show tokT s rev = ⟨#[]⟩ from if_neg hg)
    generalize tokT s rev = T at eT ⊢
    go_enter Tryd.func7, Tryd.ntmps7
    go_wp2_with fail
    refine (iSecret_any _ _).mono ?_
    rintro e w1 ⟨rfl, rfl⟩
    cases hsb : secB s with
    | false =>
      go_wp2_with fail
      go_ret
      exact ⟨by rw [unhide eT]; rfl, Below.refl _ _⟩
    | true =>
      have h5 : rev < 0 ∨ (¬ rev < 0 ∧ 1000000 < rev) := by
        by_cases h6 : rev < 0
        · exact .inl h6
        · exact .inr ⟨h6, by apply Classical.byContradiction; intro h7; exact hg ⟨hsb, by omega, by omega⟩⟩
      rcases h5 with h5 | ⟨h5, h6⟩
      · go_wp2_with fail
        go_ret
        exact ⟨by rw [unhide eT]; rfl, Below.refl _ _⟩
      · go_wp2_with fail
        go_ret
        exact ⟨by rw [unhide eT]; rfl, Below.refl _ _⟩
end Go.Proofs.YtfbkaoepopmggaaDoor.D
