/- HandleOf and ChallengeOf on both sides. -/
import Derived.Test.YtdpedpikmmedjaaDoorDMac
import Derived.Test.YtdpedpikmmedjaaDoorDArmJ
import Derived.Test.YtdpedpikmmedjaaDoorQQuo
import Derived.Test.YtdpedpikmmedjaaDoorDLk
namespace Go.Proofs.YtdpedpikmmedjaaDoor.D
open Go.RowKit
set_option maxRecDepth 20000

/-- '[]byte(s)': a new row of the call's own, its cells the bytes of s. -/
theorem conv_bytes (s : ByteArray) (w : World) : ∃ cap w1, (convert 9 24 (.string s)).run Tryd.prog w = .ok (.slice (some ⟨w.heap.size, 0, none⟩) s.size cap) w1 ∧ Below w.heap.size w w1 ∧ SlB w1 w1.heap.size (some ⟨w.heap.size, 0, none⟩) s.size s.data.toList := by
  refine ⟨_, _, run_bytes_of_string (P := Tryd.prog) w 9 24 5 s Tryd.underlying9 Tryd.underlying24 Tryd.underlying5, ((Below.refl _ _).drew).alloc (Nat.le_refl _) _, ?_⟩
  have e : s.size = s.data.toList.length := by show s.data.size = _; simp
  refine ⟨e, .inr ⟨_, 0, rfl, by simp, by simp, ?_⟩⟩
  intro j h
  have h' : w.drew.heap.size = w.heap.size := rfl
  have h2 : j < s.data.size := by simpa using h
  rw [← h', Nat.zero_add, World.cell?_alloc_mark]
  unfold bytesRow
  rw [Array.getElem?_append_left (by simpa using h2)]
  simp only [Array.getElem?_map, Array.getElem?_eq_getElem h2, Option.map_some]
  rfl
theorem between_any (a b c : Int) (w : World) : Calls Tryd.prog 18 #[.int .i64 a, .int .i64 b, .int .i64 c] w fun e w' => e = .returned (.bool (decide (a ≤ b ∧ b ≤ c))) ∧ w = w' := by
  go_enter Tryd.func18, Tryd.ntmps18
  go_wp2
  all_goals go_ret
  all_goals refine ⟨congrArg (fun b => Ending.returned (.bool b)) ?_, rfl⟩
  all_goals (rw [Bool.eq_iff_iff]; simp; try omega)

def hdH (kind : ByteArray) (n : Int) : ByteArray := kind ++ ⟨(Lib.itoa n).toArray⟩
def hdB (k : List UInt8) (kind : ByteArray) (n : Int) : List UInt8 := (mac k (hdH kind n).data.toList).take 10
def hd (k : List UInt8) (kind : ByteArray) (n : Int) : ByteArray := hdH kind n ++ (⟨#[45]⟩ : ByteArray) ++ ⟨(arm (hdB k kind n)).toArray⟩
def HdOk (len : Nat) (kind : ByteArray) (n : Int) : Prop := len ≤ 64 ∧ goodName kind = true ∧ 1 ≤ n ∧ n ≤ 1000000
instance (len : Nat) (kind : ByteArray) (n : Int) : Decidable (HdOk len kind n) := by unfold HdOk; infer_instance
def hdT (len : Nat) (k : List UInt8) (kind : ByteArray) (n : Int) : ByteArray := if HdOk len kind n then hd k kind n else ⟨#[]⟩

theorem itoaB (n : Int) (h0 : -9223372036854775808 ≤ n) (h1 : n ≤ 9223372036854775807) : (⟨(Lib.itoa n).toArray⟩ : ByteArray).size ≤ 21 := by
  have := Lib.itoa_length_le n h0 h1
  show (Lib.itoa n).toArray.size ≤ 21
  simpa using this
theorem SlB.front {B : Nat} {w : World} {a : Option Addr} {len n : Nat} {l : List UInt8} (h : SlB w B a len l) (hn : n ≤ len) : SlB w B a n (l.take n) := by
  refine ⟨by rw [List.length_take, ← h.1]; omega, ?_⟩
  rcases h.2 with e | ⟨b, off, e, z, r⟩
  · left; rw [e]; simp
  · refine .inr ⟨b, off, e, z, r.z, fun i hi => ?_⟩
    have hi' : i < l.length := by simp at hi; omega
    rw [r.c i hi']
    simp
theorem goodName_le {s : ByteArray} (h : goodName s = true) : s.size ≤ 30 := by
  rcases Nat.lt_or_ge 30 s.size with h2 | h2
  · rw [goodName_size (.inr h2)] at h; cases h
  · exact h2

set_option maxHeartbeats 1000000 in
theorem l18Handle_any (ak : Option Addr) (lk ck : Nat) (k : List UInt8) (kind : ByteArray) (n : Int) (w : World) (hk : lk ≤ 1048576) (hz : kind.size ≤ 200) (hs : SlB w w.heap.size ak lk k) (h0 : -9223372036854775808 ≤ n) (h1 : n ≤ 9223372036854775807) :
    Calls Tryd.prog 16 #[.slice ak lk ck, .string kind, .int .i64 n] w fun e w' => e = .returned (.string (hd k kind n)) ∧ Below w.heap.size w w' := by
  have zI := itoaB n h0 h1
  have qI := hide (fun w => l1Num_any n w h0 h1)
  have eT := hide (show hd k kind n = hdH kind n ++ (⟨#[45]⟩ : ByteArray) ++ ⟨(arm (hdB k kind n)).toArray⟩ from rfl)
  have eB := hide (show hdB k kind n = (mac k (hdH kind n).data.toList).take 10 from rfl)
  have eH := hide (show kind ++ ⟨(Lib.itoa n).toArray⟩ = hdH kind n from rfl)
  have zH : (hdH kind n).size ≤ 221 := by unfold hdH; rw [ByteArray.size_append]; omega
  have zA : (⟨(arm (hdB k kind n)).toArray⟩ : ByteArray).size ≤ 100 := by
    show (arm (hdB k kind n)).toArray.size ≤ 100
    have h8 : (hdB k kind n).length ≤ 10 := by unfold hdB; rw [List.length_take]; omega
    simp only [List.size_toArray, arm_len, many]
    omega
  generalize hd k kind n = T at eT ⊢
  generalize hdB k kind n = TB at eT eB zA
  generalize hdH kind n = TH at eT eB eH zH
  generalize (⟨(Lib.itoa n).toArray⟩ : ByteArray) = I at zI qI eH
  have k1 : ¬ 9223372036854775807 < kind.size + I.size := by omega
  have HS := hide hs
  clear hs
  go_enter Tryd.func16, Tryd.ntmps16
  go_wp2_with fail
  refine (unhide qI _).mono ?_
  rintro e w1 ⟨rfl, hb1⟩
  have B1 := hide hb1
  obtain ⟨cap, w3, cv, hb3, hs3⟩ := conv_bytes TH w1
  have R2 := hide (((unhide HS).keep (bTr hb1 hb3)).mono (bTr hb1 hb3).size)
  have S3 := hide hs3
  have B3 := hide (bTr (unhide B1) hb3)
  clear hb1 hb3 hs3 B1 HS qI
  go_wp2_with (fail)
  rw [unhide eH, cv]
  go_wp2_with (fail)
  refine (l2Mac_any _ _ lk _ TH.size _ k TH.data.toList _ hk (by omega) (unhide R2) (unhide S3)).mono ?_
  rintro e w4 ⟨v, D, hD, rfl, hown, hb4⟩
  have B4 := hide (bTr (unhide B3) hb4)
  have zD : D.length = 16 := by rw [unhide hD]; exact mac_len _ _
  obtain ⟨b, cap4, rfl, hbz, hc4, hcm4, sl4⟩ := own_some hown (by omega)
  have S4 := hide (sl4.front (n := 10) (by omega))
  have eD := hide (show D.take 10 = TB by rw [unhide eB, unhide hD])
  rw [zD] at hc4 ⊢
  unfold maxLen at hcm4
  clear hb4 B3 hown R2 S3 sl4 hD cv hbz
  go_wp2_with fail
  refine (l2Armor_any _ 10 _ TB _ (by omega) ((unhide eD) ▸ unhide S4)).mono ?_
  rintro e w5 ⟨rfl, hb5⟩
  have B5 := hide (bTr (unhide B4) hb5)
  clear hb5 B4 S4 eD
  have k2 : ¬ 9223372036854775806 < TH.size := by omega
  generalize (⟨(arm TB).toArray⟩ : ByteArray) = AR at eT zA ⊢
  go_wp2_with fail
  go_ret
  exact ⟨by rw [unhide eT]; rfl, unhide B5⟩

theorem HdOk.split {len : Nat} {kind : ByteArray} {n : Int} (h : ¬ HdOk len kind n) : 64 < len ∨ (¬ 64 < len ∧ goodName kind = false) ∨ (¬ 64 < len ∧ goodName kind = true ∧ n < 1) ∨ (¬ 64 < len ∧ goodName kind = true ∧ ¬ n < 1 ∧ 1000000 < n) := by
  unfold HdOk at h
  by_cases h1 : 64 < len
  · exact .inl h1
  cases h2 : goodName kind with
  | false => exact .inr (.inl ⟨h1, rfl⟩)
  | true =>
    by_cases h3 : n < 1
    · exact .inr (.inr (.inl ⟨h1, rfl, h3⟩))
    · refine .inr (.inr (.inr ⟨h1, rfl, h3, ?_⟩))
      apply Classical.byContradiction; intro h4
      exact h ⟨by omega, h2, by omega, by omega⟩

set_option maxHeartbeats 1000000 in
theorem sHandleOf_any (ak : Option Addr) (lk ck : Nat) (k : List UInt8) (kind : ByteArray) (n : Int) (w : World) (hk : lk ≤ 1048576) (hz : kind.size ≤ 1048576) (hs : SlB w w.heap.size ak lk k) (h0 : -9223372036854775808 ≤ n) (h1 : n ≤ 9223372036854775807) :
    Calls Tryd.prog 7 #[.slice ak lk ck, .string kind, .int .i64 n] w fun e w' => e = .returned (.string (hdT lk k kind n)) ∧ Below w.heap.size w w' := by
  have qN := hide (fun w => sGoodName_any kind (by unfold maxLen; omega) w)
  by_cases hg : HdOk lk kind n
  · have eT := hide (show hdT lk k kind n = hd k kind n from if_pos hg)
    obtain ⟨h2, h3, h4, h5⟩ := hg
    have q := hide (fun w hs => l18Handle_any ak lk ck k kind n w hk (Nat.le_trans (goodName_le h3) (by omega)) hs h0 h1)
    rw [h3] at qN
    generalize hdT lk k kind n = T at eT ⊢
    generalize hd k kind n = T2 at eT q
    have n2 : ¬ (64 : Int) < (lk : Int) := by omega
    have n3 : ¬ n < 1 := by omega
    have n4 : ¬ 1000000 < n := by omega
    have HS := hide hs
    clear hs h0 h1 h2 h4 h5
    go_enter Tryd.func7, Tryd.ntmps7
    go_wp2_with fail
    refine (unhide qN _).mono ?_
    rintro e w1 ⟨rfl, rfl⟩
    go_wp2_with fail
    refine (unhide q _ (unhide HS)).mono ?_
    rintro e w1 ⟨rfl, hb1⟩
    go_wp2_with fail
    go_ret
    exact ⟨by rw [unhide eT]; rfl, hb1⟩
  · have eT := hide (show hdT lk k kind n = ⟨#[]⟩ from if_neg hg)
    generalize hdT lk k kind n = T at eT ⊢
    clear hs
    rcases HdOk.split hg with h2 | ⟨h2, h3⟩ | ⟨h2, h3, h4⟩ | ⟨h2, h3, h4, h5⟩
    · go_enter Tryd.func7, Tryd.ntmps7
      go_wp2_with fail
      go_ret
      exact ⟨by rw [unhide eT]; rfl, Below.refl _ _⟩
    all_goals
      rw [h3] at qN
      go_enter Tryd.func7, Tryd.ntmps7
      go_wp2_with fail
      refine (unhide qN _).mono ?_
      rintro e w1 ⟨rfl, rfl⟩
      go_wp2_with fail
      go_ret
      exact ⟨by rw [unhide eT]; rfl, Below.refl _ _⟩

set_option maxHeartbeats 1000000 in
theorem iHandleOf_any (ak : Option Addr) (lk ck : Nat) (k : List UInt8) (kind : ByteArray) (n : Int) (w : World) (hk : lk ≤ 1048576) (hz : kind.size ≤ 1048576) (hs : SlB w w.heap.size ak lk k) (h0 : -9223372036854775808 ≤ n) (h1 : n ≤ 9223372036854775807) (hM : Mults w) (hT : Tab w) :
    Calls Tryd.prog 9 #[.slice ak lk ck, .string kind, .int .i64 n] w fun e w' => e = .returned (.string (hdT lk k kind n)) ∧ Below w.heap.size w w' := by
  have qN := hide (fun w => iGoodName_any kind (by unfold maxLen; omega) w)
  have qb := hide (fun w => between_any 1 n 1000000 w)
  by_cases hg : HdOk lk kind n
  · have eT := hide (show hdT lk k kind n = hd k kind n from if_pos hg)
    obtain ⟨h2, h3, h4, h5⟩ := hg
    have hz2 := goodName_le h3
    rw [h3] at qN
    rw [decide_eq_true (show 1 ≤ n ∧ n ≤ 1000000 from ⟨h4, h5⟩)] at qb
    have zI := itoaB n h0 h1
    have qI := hide (fun w h => itoa_any n w h0 h1 h)
    have eB := hide (show hdB k kind n = (mac k (hdH kind n).data.toList).take 10 from rfl)
    have eH := hide (show kind ++ ⟨(Lib.itoa n).toArray⟩ = hdH kind n from rfl)
    have e2 := hide (show hd k kind n = hdH kind n ++ (⟨#[45]⟩ : ByteArray) ++ ⟨(arm (hdB k kind n)).toArray⟩ from rfl)
    have zH : (hdH kind n).size ≤ 221 := by unfold hdH; rw [ByteArray.size_append]; omega
    have z8 : (hdB k kind n).length ≤ 10 := by unfold hdB; rw [List.length_take]; omega
    have zA : (⟨(arm (hdB k kind n)).toArray⟩ : ByteArray).size ≤ 100 := by
      show (arm (hdB k kind n)).toArray.size ≤ 100
      simp only [List.size_toArray, arm_len, many]
      omega
    generalize hdT lk k kind n = T at eT ⊢
    generalize hd k kind n = T2 at eT e2
    generalize hdB k kind n = TB at e2 eB zA z8
    generalize hdH kind n = TH at e2 eB eH zH
    generalize (⟨(Lib.itoa n).toArray⟩ : ByteArray) = I at zI qI eH
    have k1 : ¬ 9223372036854775807 < kind.size + I.size := by omega
    have n2 : ¬ (64 : Int) < (lk : Int) := by omega
    have hkl := hide (show k.length ≤ 64 by rw [← hs.1]; exact h2)
    have HM := hide hM
    have HT := hide hT
    have HS := hide hs
    clear hM hT hs h0 h1 h2 h4 h5
    go_enter Tryd.func9, Tryd.ntmps9
    go_wp2_with fail
    refine (unhide qN _).mono ?_
    rintro e w0 ⟨rfl, hb0⟩
    have B0 := hide hb0
    replace HM := hide ((unhide HM).keepB hb0 (unhide HM).1)
    replace HT := hide ((unhide HT).keep hb0)
    replace HS := hide (((unhide HS).keep hb0).mono hb0.size)
    clear hb0 qN
    go_wp2_with fail
    refine (unhide qb _).mono ?_
    rintro e w1 ⟨rfl, rfl⟩
    go_wp2_with fail
    refine (unhide qI _ (unhide HT)).mono ?_
    rintro e w1 ⟨rfl, hb1⟩
    obtain ⟨cap, w3, cv, hb3, hs3⟩ := conv_bytes TH w1
    have R2 := hide (((unhide HS).keep (bTr hb1 hb3)).mono (bTr hb1 hb3).size)
    have S3 := hide hs3
    replace HM := hide ((unhide HM).keepB (bTr hb1 hb3) (unhide HM).1)
    have B3 := hide (bTr (bTr (unhide B0) hb1) hb3)
    clear hb1 hb3 hs3 B0 qI HT HS qb
    go_wp2_with fail
    rw [unhide eH, cv]
    go_wp2_with fail
    refine (iMac_any _ _ lk _ TH.size _ k TH.data.toList _ hk (by omega) (unhide R2) (unhide S3) (unhide HM)).mono ?_
    rintro e w4 ⟨v, D, hD, rfl, hown, hb4⟩
    have B4 := hide (bTr (unhide B3) hb4)
    have hD2 : D = mac k TH.data.toList := by
      rw [unhide hD]
      refine (macD_yes ⟨Nat.le_trans (unhide hkl) (by omega), ?_⟩).symm
      have : TH.data.toList.length = TH.size := by show _ = TH.data.size; simp
      omega
    have zD : D.length = 16 := by rw [hD2]; exact mac_len _ _
    obtain ⟨b, cap4, rfl, hbz, hc4, hcm4, sl4⟩ := own_some hown (by omega)
    have eD := hide (show D.take 10 = TB by rw [unhide eB, hD2])
    have S4 := hide (show SlB w4 w4.heap.size (some ⟨b, 0, none⟩) 10 TB by rw [← unhide eD]; exact sl4.front (n := 10) (by omega))
    rw [zD] at hc4 ⊢
    unfold maxLen at hcm4
    have q5 := hide (fun c (hc : 10 ≤ c) (hcm : c ≤ maxLen) => iArmor_any (some ⟨b, 0, none⟩) 10 c TB w4 (by unfold maxLen; omega) hc hcm (unhide S4))
    have eA : armD TB = arm TB := by
      unfold armD
      rw [if_pos (by omega)]
    rw [eA] at q5
    clear hb4 B3 hown R2 S3 sl4 hD hD2 cv hbz eD HM eA hkl
    go_wp2_with fail
    refine (unhide q5 _ (by omega) (by unfold maxLen; omega)).mono ?_
    rintro e w5 ⟨rfl, hb5⟩
    have B5 := hide (bTr (unhide B4) hb5)
    clear hb5 B4 S4 q5
    have k2 : ¬ 9223372036854775806 < TH.size := by omega
    generalize (⟨(arm TB).toArray⟩ : ByteArray) = AR at e2 zA ⊢
    go_wp2_with fail
    go_ret
    exact ⟨by rw [unhide eT, unhide e2]; rfl, unhide B5⟩
  · have eT := hide (show hdT lk k kind n = ⟨#[]⟩ from if_neg hg)
    generalize hdT lk k kind n = T at eT ⊢
    clear hs hM hT
    rcases HdOk.split hg with h2 | ⟨h2, h3⟩ | ⟨h2, h3, h4⟩ | ⟨h2, h3, h4, h5⟩
    · go_enter Tryd.func9, Tryd.ntmps9
      go_wp2_with fail
      go_ret
      exact ⟨by rw [unhide eT]; rfl, Below.refl _ _⟩
    · rw [h3] at qN
      go_enter Tryd.func9, Tryd.ntmps9
      go_wp2_with fail
      refine (unhide qN _).mono ?_
      rintro e w1 ⟨rfl, hb1⟩
      have B1 := hide hb1
      clear hb1
      go_wp2_with fail
      go_ret
      exact ⟨by rw [unhide eT]; rfl, unhide B1⟩
    all_goals
      rw [h3] at qN
      rw [decide_eq_false (show ¬ (1 ≤ n ∧ n ≤ 1000000) by omega)] at qb
      clear h4
      try clear h5
      go_enter Tryd.func9, Tryd.ntmps9
      go_wp2_with fail
      refine (unhide qN _).mono ?_
      rintro e w1 ⟨rfl, hb1⟩
      have B1 := hide hb1
      clear hb1
      go_wp2_with fail
      refine (unhide qb _).mono ?_
      rintro e w2 ⟨rfl, rfl⟩
      go_wp2_with fail
      go_ret
      exact ⟨by rw [unhide eT]; rfl, unhide B1⟩

def chT (v : ByteArray) : ByteArray := if v.size ≤ 200 then ⟨(arm (dig v.data.toList)).toArray⟩ else ⟨#[]⟩
theorem data_len (v : ByteArray) : v.data.toList.length = v.size := by show _ = v.data.size; simp
set_option maxHeartbeats 1000000 in
theorem sChallengeOf_any (v : ByteArray) (w : World) :
    Calls Tryd.prog 5 #[.string v] w fun e w' => e = .returned (.string (chT v)) ∧ Below w.heap.size w w' := by
  by_cases hg : v.size ≤ 200
  · have eT := hide (show chT v = ⟨(arm (dig v.data.toList)).toArray⟩ from if_pos hg)
    generalize chT v = T at eT ⊢
    have n2 : ¬ 200 < v.size := by omega
    obtain ⟨cap, w3, cv, hb3, hs3⟩ := conv_bytes v w
    have S3 := hide hs3
    have B3 := hide hb3
    clear hs3 hb3
    go_enter Tryd.func5, Tryd.ntmps5
    go_wp2_with fail
    refine (l2Digest_any _ v.size _ v.data.toList _ (by omega) (unhide S3)).mono ?_
    rintro e w4 ⟨r, D, hD, rfl, hown, hb4⟩
    have zD : D.length = 16 := by rw [unhide hD]; exact dig_len _
    have B4 := hide (bTr (unhide B3) hb4)
    obtain ⟨b, cap4, rfl, hbz, hc4, hcm4, sl4⟩ := own_some hown (by omega)
    have S4 := hide sl4
    rw [zD] at hc4 ⊢
    rw [zD] at S4
    unfold maxLen at hcm4
    clear hb4 B3 hown S3 sl4 cv hbz
    go_wp2_with fail
    refine (l2Armor_any _ 16 _ D _ (by omega) (unhide S4)).mono ?_
    rintro e w5 ⟨rfl, hb5⟩
    have B5 := hide (bTr (unhide B4) hb5)
    clear hb5 B4 S4
    go_wp2_with fail
    go_ret
    exact ⟨by rw [unhide eT, unhide hD]; rfl, unhide B5⟩
  · have eT := hide (show chT v = ⟨#[]⟩ from if_neg hg)
    generalize chT v = T at eT ⊢
    have n2 : 200 < v.size := by omega
    go_enter Tryd.func5, Tryd.ntmps5
    go_wp2_with fail
    go_ret
    exact ⟨by rw [unhide eT]; rfl, Below.refl _ _⟩
set_option maxHeartbeats 1000000 in
theorem iChallengeOf_any (v : ByteArray) (w : World) (hM : Mults w) :
    Calls Tryd.prog 6 #[.string v] w fun e w' => e = .returned (.string (chT v)) ∧ Below w.heap.size w w' := by
  by_cases hg : v.size ≤ 200
  · have eT := hide (show chT v = ⟨(arm (dig v.data.toList)).toArray⟩ from if_pos hg)
    generalize chT v = T at eT ⊢
    have n2 : ¬ 200 < v.size := by omega
    obtain ⟨cap, w3, cv, hb3, hs3⟩ := conv_bytes v w
    have S3 := hide hs3
    have B3 := hide hb3
    have HM := hide (hM.keepB hb3 hM.1)
    clear hs3 hb3 hM
    go_enter Tryd.func6, Tryd.ntmps6
    go_wp2_with fail
    refine (iDigest_any _ v.size _ v.data.toList _ (by unfold maxLen; omega) (unhide S3) (unhide HM)).mono ?_
    rintro e w4 ⟨r, D, hD, rfl, hown, hb4⟩
    have eD : D = dig v.data.toList := (unhide hD).trans (digD_yes (by rw [data_len]; omega)).symm
    have zD : D.length = 16 := by rw [eD]; exact dig_len _
    have ED := hide eD
    have B4 := hide (bTr (unhide B3) hb4)
    obtain ⟨b, cap4, rfl, hbz, hc4, hcm4, sl4⟩ := own_some hown (by omega)
    have S4 := hide sl4
    rw [zD] at hc4 ⊢
    rw [zD] at S4
    have q5 := hide (fun c (hc : 16 ≤ c) (hcm : c ≤ maxLen) => iArmor_any (some ⟨b, 0, none⟩) 16 c D w4 (by unfold maxLen; omega) hc hcm (unhide S4))
    have eA : armD D = arm D := by
      unfold armD
      rw [if_pos (by omega)]
    rw [eA] at q5
    unfold maxLen at hcm4
    clear hb4 B3 hown S3 sl4 cv hbz eD eA hD
    go_wp2_with fail
    refine (unhide q5 _ (by omega) (by unfold maxLen; omega)).mono ?_
    rintro e w5 ⟨rfl, hb5⟩
    have B5 := hide (bTr (unhide B4) hb5)
    clear hb5 B4 S4
    go_wp2_with fail
    go_ret
    exact ⟨by rw [unhide eT, unhide ED]; rfl, unhide B5⟩
  · have eT := hide (show chT v = ⟨#[]⟩ from if_neg hg)
    generalize chT v = T at eT ⊢
    have n2 : 200 < v.size := by omega
    go_enter Tryd.func6, Tryd.ntmps6
    go_wp2_with fail
    go_ret
    exact ⟨by rw [unhide eT]; rfl, Below.refl _ _⟩
end Go.Proofs.YtdpedpikmmedjaaDoor.D
