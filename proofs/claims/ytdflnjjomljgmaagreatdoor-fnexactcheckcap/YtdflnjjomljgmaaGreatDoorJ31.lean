/- DMark, KMc, one behind the other. -/
import Derived.Test.YtdflnjjomljgmaaGreatDoorJ22
import Derived.Test.YtdflnjjomljgmaaGreatDoorJ29
import Derived.Test.YtdflnjjomljgmaaGreatDoorJ25
import Derived.Test.YtdflnjjomljgmaaGreatDoorJ27
/- Marks on a slice that is owned. -/
namespace Go.Proofs.YtdflnjjomljgmaaGreatDoor.D
set_option maxRecDepth 20000
open Go.RowKit

/-- A slice that may be marked, and whose marks are held. -/
def Marks (w : World) (v : Value) (n : Nat) : Prop := (v = .slice none 0 0 ∧ n = 0) ∨ ∃ g cap C, v = .slice (some ⟨g, 0, none⟩) n cap ∧ RowIs w g C 5 ∧ MarkedTo C 1 n
theorem Marks.keep {w w' : World} {v : Value} {n : Nat} (h : Marks w v n) (hb : Below w.heap.size w w') : Marks w' v n :=
  h.imp_right fun ⟨g, cap, C, e, r, m⟩ => ⟨g, cap, C, e, r.keep hb, m⟩
end Go.Proofs.YtdflnjjomljgmaaGreatDoor.D
/- MakeCap on both sides; eqCap, markCap, heldCap of capabilities without terms. -/
namespace Go.Proofs.YtdflnjjomljgmaaGreatDoor.D
open Go.RowKit
set_option maxRecDepth 20000

/-- '[]byte(s)': a new row of the call's own, its cells the bytes of s. -/
theorem conv_bytes (s : ByteArray) (w : World) : ∃ cap w1, (convert 9 22 (.string s)).run Tryz.prog w = .ok (.slice (some ⟨w.heap.size, 0, none⟩) s.size cap) w1 ∧ Below w.heap.size w w1 ∧ SlB w1 w1.heap.size (some ⟨w.heap.size, 0, none⟩) s.size s.data.toList := by
  refine ⟨_, _, run_bytes_of_string (P := Tryz.prog) w 9 22 5 s Tryz.underlying9 Tryz.underlying22 Tryz.underlying5, ((Below.refl _ _).drew).alloc (Nat.le_refl _) _, ?_⟩
  have e : s.size = s.data.toList.length := by show s.data.size = _; simp
  refine ⟨e, .inr ⟨_, 0, rfl, by simp, by simp, ?_⟩⟩
  intro j h
  have h' : w.drew.heap.size = w.heap.size := rfl
  have h2 : j < s.data.size := by simpa using h
  rw [← h', Nat.zero_add, World.cell?_alloc_mark]
  unfold bytesRow
  rw [Array.getElem?_append_left (by simpa using h2)]
  simp only [Array.getElem?_map, Array.getElem?_eq_getElem h2, Option.map_some]
  rfl
theorem data_len (v : ByteArray) : v.data.toList.length = v.size := by show _ = v.data.size; simp
def CapOk (len : Nat) (id : ByteArray) : Prop := len ≤ 64 ∧ idB id = true
instance (len : Nat) (id : ByteArray) : Decidable (CapOk len id) := by unfold CapOk; infer_instance
def capI (len : Nat) (id : ByteArray) : ByteArray := if CapOk len id then id else ⟨#[]⟩
def capG (len : Nat) (k : List UInt8) (id : ByteArray) : List UInt8 := if CapOk len id then mac k id.data.toList else []
theorem capG_len (len : Nat) (k : List UInt8) (id : ByteArray) : (capG len k id).length ≤ 16 := by
  unfold capG; split
  · rw [mac_len]; exact Nat.le_refl _
  · simp
theorem capI_size (len : Nat) (id : ByteArray) (h : id.size ≤ 1048576) : (capI len id).size ≤ 1048576 := by
  unfold capI; split
  · exact h
  · show 0 ≤ _; omega
theorem idB_le {s : ByteArray} (h : idB s = true) : s.size ≤ 40 := by
  rcases Nat.lt_or_ge 40 s.size with h2 | h2
  · rw [idB_size (.inr h2)] at h; cases h
  · exact h2
theorem goodRoot_any (a : Option Addr) (len cap : Nat) (w : World) : Calls Tryz.prog 29 #[.slice a len cap] w fun e w' => e = .returned (.bool (decide ((len : Int) ≤ 64))) ∧ w = w' := by
  go_enter Tryz.func29, Tryz.ntmps29
  go_wp2
  go_ret
  exact ⟨rfl, rfl⟩
-- GEN
theorem own_set {w : World} {base e size n b o : Nat} {v u : Value} {xs : List Value} (h : w.ownsRow base e size v n xs) (hne : ∀ g, v.ownBlock = some g → g ≠ b) : (w.setCell ⟨b, o, none⟩ u).ownsRow base e size v n xs := by
  refine ⟨h.1, ?_⟩
  rcases h.2 with h2 | ⟨g, cap, cur, hv, h3, h4, h5⟩
  · exact .inl h2
  · exact .inr ⟨g, cap, cur, hv, h3, by rw [heap_setCell_other w ⟨b, o, none⟩ g u (hne g (by rw [hv]; rfl))]; exact h4, h5⟩
theorem own_set3 {w : World} {base base' n b : Nat} {v u0 u1 u2 : Value} {xs : List Value} (h : w.ownsRow base 5 1 v n xs) (hb : base' ≤ base) (hne : b < base) :
    (((w.setCell ⟨b, 0, none⟩ u0).setCell ⟨b, 1, none⟩ u1).setCell ⟨b, 2, none⟩ u2).ownsRow base' 5 1 v n xs := by
  have ne : ∀ g, v.ownBlock = some g → g ≠ b := fun g e => by have := (h.lt g e).1; omega
  exact own_mono (own_set (own_set (own_set h ne) ne) ne) hb
/-- What MakeCap answers. -/
def CapRet (len : Nat) (k : List UInt8) (id : ByteArray) (base : Nat) (e : Ending) (w' : World) : Prop :=
  ∃ v D, Hid (D = capG len k id) ∧ e = .returned (.agg #[.string (capI len id), .slice none 0 0, v]) ∧ w'.ownsRow base 5 1 v D.length (D.map byteV)
set_option maxHeartbeats 1000000 in
theorem sMakeCap_any (ak : Option Addr) (lk ck : Nat) (k : List UInt8) (id : ByteArray) (w : World) (hk : lk ≤ 1048576) (hz : id.size ≤ 1048576) (hs : SlB w w.heap.size ak lk k) :
    Calls Tryz.prog 21 #[.slice ak lk ck, .string id] w fun e w' => CapRet lk k id w.heap.size e w' ∧ Below w.heap.size w w' := by
  have qN := hide (fun w => l7Id_any id (by unfold maxLen; omega) w)
  obtain ⟨W, hW⟩ : ∃ W, W = w.alloc (.cells #[.string ⟨#[]⟩, .slice none 0 0, .slice none 0 0] 38) := ⟨_, rfl⟩
  have B0 : Below w.heap.size w W := by rw [hW]; exact bAl (Below.refl _ _) _
  have R0 := hide (show RowIs W w.heap.size #[.string ⟨#[]⟩, .slice none 0 0, .slice none 0 0] 38 by rw [hW]; exact RowIs.new _ _ _)
  have z0 : W.heap.size = w.heap.size + 1 := by rw [hW]; simp
  have HW := hide hW.symm
  have HS := hide ((hs.keep B0).mono B0.size)
  have hkl := hide hs.1
  have HB := hide B0
  clear hW hs B0
  by_cases hg : CapOk lk id
  · have eG := hide (show capG lk k id = mac k id.data.toList from if_pos hg)
    have eI := hide (show capI lk id = id from if_pos hg)
    obtain ⟨h2, h3⟩ := hg
    have hz2 := idB_le h3
    have cr : ∀ e w', CapRet lk k id w.heap.size e w' ↔ ∃ v D, Hid (D = mac k id.data.toList) ∧ e = .returned (.agg #[.string id, .slice none 0 0, v]) ∧ w'.ownsRow w.heap.size 5 1 v D.length (D.map byteV) := fun e w' => by unfold CapRet; rw [unhide eG, unhide eI]
    simp only [cr]
    rw [h3] at qN
    have n2 : ¬ (64 : Int) < (lk : Int) := by omega
    have h2' := hide h2
    clear h2 h3 eG eI cr
    go_enter Tryz.func21, Tryz.ntmps21
    go_wp2_with fail
    rw [unhide HW]
    refine (unhide qN _).mono ?_
    rintro e w1 ⟨rfl, hb1⟩
    obtain ⟨cap, w3, cv, hb3, hs3⟩ := conv_bytes id w1
    have R2 := hide (((unhide HS).keep (bTr hb1 hb3)).mono (bTr hb1 hb3).size)
    have S3 := hide hs3
    have B3 := hide (bTr hb1 hb3)
    clear hb1 hb3 hs3 HS qN
    go_wp2_with fail
    refine (l2Mac_any _ _ lk _ id.size _ k id.data.toList _ hk (by omega) (unhide R2) (unhide S3)).mono ?_
    rintro e w4 ⟨v, D, hD, rfl, hown, hb4⟩
    have B4 := hide (bTr (unhide B3) hb4)
    have R4 := (unhide R0).keep (unhide B4)
    obtain ⟨av, capv, rfl, _⟩ := own_sl hown
    have O4 := hide hown
    have zB := (unhide B3).size
    have c0 := R4.at (o := 0) (v := .string ⟨#[]⟩) rfl
    have c1 := R4.at (o := 1) (v := .slice none 0 0) rfl
    have c2 := R4.at (o := 2) (v := .slice none 0 0) rfl
    have f0 := R4.froz 0
    have f1 := R4.froz 1
    have f2 := R4.froz 2
    have zz := R4.lt
    clear hb4 B3 hown R2 S3 cv R4

    go_wp2_with fail
    exact bodyPost_ret (v := .agg #[.string id, .slice none 0 0, .slice av D.length capv]) (by simp [results, Tryz.results21, go_sem, c0, c1, c2]) rfl ⟨⟨_, D, hD, rfl, own_set3 (unhide O4) (by omega) (by omega)⟩, (((bTr (unhide HB) (unhide B4)).setCell (Nat.le_refl _) _).setCell (Nat.le_refl _) _).setCell (Nat.le_refl _) _⟩
  · have eG := hide (show capG lk k id = [] from if_neg hg)
    have eI := hide (show capI lk id = ⟨#[]⟩ from if_neg hg)
    have cr : ∀ w', CapRet lk k id w.heap.size (.returned (.agg #[.string ⟨#[]⟩, .slice none 0 0, .slice none 0 0])) w' := fun w' => ⟨.slice none 0 0, [], hide (unhide eG).symm, by rw [unhide eI], World.ownsRow_nil _ _ _ _⟩
    have CR := hide cr
    clear cr eG eI HS
    by_cases h2 : 64 < lk
    · have R1 := unhide R0
      have y0 := R1.at (o := 0) (v := .string ⟨#[]⟩) rfl
      have y1 := R1.at (o := 1) (v := .slice none 0 0) rfl
      have y2 := R1.at (o := 2) (v := .slice none 0 0) rfl
      have g0 := R1.froz 0
      have g1 := R1.froz 1
      have g2 := R1.froz 2
      have zz := R1.lt
      clear R1
      go_enter Tryz.func21, Tryz.ntmps21
      go_wp2_with fail
      rw [unhide HW]
      exact bodyPost_ret (v := .agg #[.string ⟨#[]⟩, .slice none 0 0, .slice none 0 0]) (by simp [results, Tryz.results21, go_sem, y0, y1, y2]) rfl ⟨unhide CR _, unhide HB⟩
    · have h3 : idB id = false := by cases h : idB id; rfl; exact absurd ⟨by omega, h⟩ hg
      rw [h3] at qN
      have n2 : ¬ (64 : Int) < (lk : Int) := by omega
      go_enter Tryz.func21, Tryz.ntmps21
      go_wp2_with fail
      rw [unhide HW]
      refine (unhide qN _).mono ?_
      rintro e w1 ⟨rfl, hb1⟩
      have R1 := (unhide R0).keep hb1
      have y0 := R1.at (o := 0) (v := .string ⟨#[]⟩) rfl
      have y1 := R1.at (o := 1) (v := .slice none 0 0) rfl
      have y2 := R1.at (o := 2) (v := .slice none 0 0) rfl
      have g0 := R1.froz 0
      have g1 := R1.froz 1
      have g2 := R1.froz 2
      have zz := R1.lt
      clear R1
      have B1 := hide (bTr (unhide HB) hb1)
      clear hb1
      go_wp2_with fail
      exact bodyPost_ret (v := .agg #[.string ⟨#[]⟩, .slice none 0 0, .slice none 0 0]) (by simp [results, Tryz.results21, go_sem, y0, y1, y2]) rfl ⟨unhide CR _, (((unhide B1).setCell (Nat.le_refl _) _).setCell (Nat.le_refl _) _).setCell (Nat.le_refl _) _⟩
set_option maxHeartbeats 1000000 in
theorem iMakeCap_any (ak : Option Addr) (lk ck : Nat) (k : List UInt8) (id : ByteArray) (w : World) (hk : lk ≤ 1048576) (hz : id.size ≤ 1048576) (hs : SlB w w.heap.size ak lk k) (hM : Mults w) :
    Calls Tryz.prog 54 #[.slice ak lk ck, .string id] w fun e w' => CapRet lk k id w.heap.size e w' ∧ Below w.heap.size w w' := by
  have qN := hide (fun w => isId_any id (by unfold maxLen; omega) w)
  have qG := hide (fun w => goodRoot_any ak lk ck w)
  obtain ⟨W, hW⟩ : ∃ W, W = w.alloc (.cells #[.string ⟨#[]⟩, .slice none 0 0, .slice none 0 0] 38) := ⟨_, rfl⟩
  have B0 : Below w.heap.size w W := by rw [hW]; exact bAl (Below.refl _ _) _
  have R0 := hide (show RowIs W w.heap.size #[.string ⟨#[]⟩, .slice none 0 0, .slice none 0 0] 38 by rw [hW]; exact RowIs.new _ _ _)
  have z0 : W.heap.size = w.heap.size + 1 := by rw [hW]; simp
  have HW := hide hW.symm
  have HS := hide ((hs.keep B0).mono B0.size)
  have hkl := hide hs.1
  have HM := hide (hM.keepB B0 hM.1)
  have HB := hide B0
  clear hW hs B0 hM
  by_cases hg : CapOk lk id
  · have eG := hide (show capG lk k id = mac k id.data.toList from if_pos hg)
    have eI := hide (show capI lk id = id from if_pos hg)
    obtain ⟨h2, h3⟩ := hg
    have hz2 := idB_le h3
    have cr : ∀ e w', CapRet lk k id w.heap.size e w' ↔ ∃ v D, Hid (D = mac k id.data.toList) ∧ e = .returned (.agg #[.string id, .slice none 0 0, v]) ∧ w'.ownsRow w.heap.size 5 1 v D.length (D.map byteV) := fun e w' => by unfold CapRet; rw [unhide eG, unhide eI]
    simp only [cr]
    rw [h3] at qN
    have n2 : ¬ (64 : Int) < (lk : Int) := by omega
    have h2' := hide h2
    have dG : decide ((lk : Int) ≤ 64) = true := by simp; omega
    clear h2 h3 eG eI cr
    go_enter Tryz.func54, Tryz.ntmps54
    go_wp2_with fail
    rw [unhide HW]
    refine (unhide qG _).mono ?_
    rintro e w0 ⟨rfl, rfl⟩
    rw [dG]
    go_wp2_with fail
    refine (unhide qN _).mono ?_
    rintro e w1 ⟨rfl, hb1⟩
    obtain ⟨cap, w3, cv, hb3, hs3⟩ := conv_bytes id w1
    have R2 := hide (((unhide HS).keep (bTr hb1 hb3)).mono (bTr hb1 hb3).size)
    have S3 := hide hs3
    have B3 := hide (bTr hb1 hb3)
    have HM3 := hide ((unhide HM).keepB (unhide B3) (unhide HM).1)
    clear hb1 hb3 hs3 HS qN HM
    go_wp2_with fail
    refine (iMac_any _ _ lk _ id.size _ k id.data.toList _ hk (by omega) (unhide R2) (unhide S3) (unhide HM3)).mono ?_
    rintro e w4 ⟨v, D, hD0, rfl, hown, hb4⟩
    have hD := hide ((unhide hD0).trans (macD_yes ⟨by rw [← unhide hkl]; have := unhide h2'; omega, by rw [data_len]; omega⟩).symm)
    clear hD0 HM3
    have B4 := hide (bTr (unhide B3) hb4)
    have R4 := (unhide R0).keep (unhide B4)
    obtain ⟨av, capv, rfl, _⟩ := own_sl hown
    have O4 := hide hown
    have zB := (unhide B3).size
    have c0 := R4.at (o := 0) (v := .string ⟨#[]⟩) rfl
    have c1 := R4.at (o := 1) (v := .slice none 0 0) rfl
    have c2 := R4.at (o := 2) (v := .slice none 0 0) rfl
    have f0 := R4.froz 0
    have f1 := R4.froz 1
    have f2 := R4.froz 2
    have zz := R4.lt
    clear hb4 B3 hown R2 S3 cv R4

    go_wp2_with fail
    exact bodyPost_ret (v := .agg #[.string id, .slice none 0 0, .slice av D.length capv]) (by simp [results, Tryz.results54, go_sem, c0, c1, c2]) rfl ⟨⟨_, D, hD, rfl, own_set3 (unhide O4) (by omega) (by omega)⟩, (((bTr (unhide HB) (unhide B4)).setCell (Nat.le_refl _) _).setCell (Nat.le_refl _) _).setCell (Nat.le_refl _) _⟩
  · have eG := hide (show capG lk k id = [] from if_neg hg)
    have eI := hide (show capI lk id = ⟨#[]⟩ from if_neg hg)
    have cr : ∀ w', CapRet lk k id w.heap.size (.returned (.agg #[.string ⟨#[]⟩, .slice none 0 0, .slice none 0 0])) w' := fun w' => ⟨.slice none 0 0, [], hide (unhide eG).symm, by rw [unhide eI], World.ownsRow_nil _ _ _ _⟩
    have CR := hide cr
    clear cr eG eI HS
    by_cases h2 : 64 < lk
    · have dG : decide ((lk : Int) ≤ 64) = false := by simp; omega
      have R1 := unhide R0
      have y0 := R1.at (o := 0) (v := .string ⟨#[]⟩) rfl
      have y1 := R1.at (o := 1) (v := .slice none 0 0) rfl
      have y2 := R1.at (o := 2) (v := .slice none 0 0) rfl
      have g0 := R1.froz 0
      have g1 := R1.froz 1
      have g2 := R1.froz 2
      have zz := R1.lt
      clear R1
      go_enter Tryz.func54, Tryz.ntmps54
      go_wp2_with fail
      rw [unhide HW]
      refine (unhide qG _).mono ?_
      rintro e w0 ⟨rfl, rfl⟩
      rw [dG]
      go_wp2_with fail
      exact bodyPost_ret (v := .agg #[.string ⟨#[]⟩, .slice none 0 0, .slice none 0 0]) (by simp [results, Tryz.results54, go_sem, y0, y1, y2]) rfl ⟨unhide CR _, (((unhide HB).setCell (Nat.le_refl _) _).setCell (Nat.le_refl _) _).setCell (Nat.le_refl _) _⟩
    · have h3 : idB id = false := by cases h : idB id; rfl; exact absurd ⟨by omega, h⟩ hg
      rw [h3] at qN
      have n2 : ¬ (64 : Int) < (lk : Int) := by omega
      have dG : decide ((lk : Int) ≤ 64) = true := by simp; omega
      go_enter Tryz.func54, Tryz.ntmps54
      go_wp2_with fail
      rw [unhide HW]
      refine (unhide qG _).mono ?_
      rintro e w0 ⟨rfl, rfl⟩
      rw [dG]
      go_wp2_with fail
      refine (unhide qN _).mono ?_
      rintro e w1 ⟨rfl, hb1⟩
      have R1 := (unhide R0).keep hb1
      have y0 := R1.at (o := 0) (v := .string ⟨#[]⟩) rfl
      have y1 := R1.at (o := 1) (v := .slice none 0 0) rfl
      have y2 := R1.at (o := 2) (v := .slice none 0 0) rfl
      have g0 := R1.froz 0
      have g1 := R1.froz 1
      have g2 := R1.froz 2
      have zz := R1.lt
      clear R1
      have B1 := hide (bTr (unhide HB) hb1)
      clear hb1
      go_wp2_with fail
      exact bodyPost_ret (v := .agg #[.string ⟨#[]⟩, .slice none 0 0, .slice none 0 0]) (by simp [results, Tryz.results54, go_sem, y0, y1, y2]) rfl ⟨unhide CR _, (((unhide B1).setCell (Nat.le_refl _) _).setCell (Nat.le_refl _) _).setCell (Nat.le_refl _) _⟩
end Go.Proofs.YtdflnjjomljgmaaGreatDoor.D
