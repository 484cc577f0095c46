/- Decimal numbers: impl.decimalText; texts as spec.l1Text has them. -/
import Derived.Test.YtfdfglblcgdoiaaDoorQQuo
namespace Go.Proofs.YtfdfglblcgdoiaaDoor
open Go.RowKit

def padL (D : List UInt8) : List UInt8 := List.replicate (5 - D.length) 48 ++ D
def dotL (P : List UInt8) : List UInt8 := P.take (P.length - 4) ++ 46 :: P.drop (P.length - 4)
def decL (n : Int) : List UInt8 := (if n < 0 then [45] else []) ++ dotL (padL (Lib.decDigits n.natAbs))
theorem padL_len (D : List UInt8) : (padL D).length = 5 - D.length + D.length := by simp [padL]
theorem dig_len (n : Int) (h0 : -9223372036854775808 ≤ n) (h1 : n ≤ 9223372036854775807) : (Lib.decDigits n.natAbs).length ≤ 21 := by
  have := Lib.itoa_length_le n h0 h1
  unfold Lib.itoa at this
  split at this
  · simp at this; omega
  · rw [show n.natAbs = n.toNat by omega]; exact this
theorem dot_bytes (X : ByteArray) (P : List UInt8) (hX : X.data.toList = P) (p : Nat) (hp : p = P.length - 4) : (X.extract 0 p ++ ⟨#[46]⟩ ++ X.extract p X.size : ByteArray) = ⟨(dotL P).toArray⟩ := by
  have hs : X.size = P.length := by rw [← hX]; simp
  subst hp
  apply ByteArray.ext
  apply Array.toList_inj.1
  simp [ByteArray.data_append, ByteArray.data_extract, dotL, hX, hs, List.take_of_length_le]

theorem rep_one (c : Nat) : Lib.repeatL [48] c = List.replicate c 48 := by
  induction c with
  | zero => rfl
  | succ c ih => show [48] ++ Lib.repeatL [48] c = _; rw [ih]; rfl
theorem pad_bytes (Y : ByteArray) (D : List UInt8) (hY : Y.data.toList = D) : ((⟨(Lib.repeatL [48] (5 - D.length)).toArray⟩ : ByteArray) ++ Y : ByteArray).data.toList = padL D := by
  rw [rep_one]
  simp [ByteArray.data_append, padL, hY]
theorem sign_bytes (S : ByteArray) (L : List UInt8) (X : ByteArray) (hX : X = ⟨L.toArray⟩) : (S ++ X : ByteArray) = ⟨(S.data.toList ++ L).toArray⟩ := by
  subst hX
  apply ByteArray.ext
  apply Array.toList_inj.1
  simp [ByteArray.data_append]

set_option maxRecDepth 8000 in
set_option maxHeartbeats 2000000 in
theorem decimalText_any (n : Int) (w : World) (h0 : -9223372036854775808 ≤ n) (h1 : n ≤ 9223372036854775807) (ht : Tab w) :
    Calls Tryd.prog 70 #[.int .i64 n] w fun e w' => e = .returned (.string ⟨(decL n).toArray⟩) ∧ Below w.heap.size w w' := by
  have qi := hide (itoa_any n w h0 h1 ht)
  have hD := dig_len n h0 h1
  obtain ⟨Y, hYD⟩ : ∃ Y : ByteArray, Y = ⟨(Lib.decDigits n.natAbs).toArray⟩ := ⟨_, rfl⟩
  have HY := hide (show Y.data.toList = Lib.decDigits n.natAbs by rw [hYD])
  have hYs : Y.size = (Lib.decDigits n.natAbs).length := by rw [hYD]; show (Lib.decDigits n.natAbs).toArray.size = _; simp
  have hy : Y.size ≤ 21 := by omega
  obtain ⟨C, hC⟩ : ∃ C, 5 - Y.size = C := ⟨_, rfl⟩
  have hCi : max (0 : Int) (5 - (Y.size : Int)) = (C : Int) := by omega
  have hC5 : C ≤ 5 := by omega
  have qr : Hid (∀ w, Calls Tryd.prog 79 #[.string ⟨#[48]⟩, .int .i64 C] w fun e w' => e = .returned (.string ⟨(Lib.repeatL [48] C).toArray⟩) ∧ Below w.heap.size w w') := hide (fun w => Tryd.strings_Repeat ⟨#[48]⟩ C w (by omega) (by show 1 * C ≤ _; omega))
  obtain ⟨Z, hZ⟩ : ∃ Z : ByteArray, Z = ⟨(Lib.repeatL [48] C).toArray⟩ := ⟨_, rfl⟩
  have hZs : Z.size = C := by rw [hZ, rep_one]; show (List.replicate C (48 : UInt8)).toArray.size = _; simp
  have HP := hide (show (Z ++ Y : ByteArray).data.toList = padL (Lib.decDigits n.natAbs) by rw [hZ, ← hC, hYs]; exact pad_bytes Y _ (unhide HY))
  have hPs : (Z ++ Y : ByteArray).size = C + Y.size := by rw [ByteArray.size_append, hZs]
  obtain ⟨P, hP⟩ : ∃ P, (Z ++ Y : ByteArray) = P := ⟨_, rfl⟩
  have p5 : 5 ≤ P.size ∧ P.size ≤ 26 := by rw [← hP, hPs]; omega
  have z1 : ¬ 9223372036854775807 < Z.size + Y.size := by omega
  have z2 : Z.size + Y.size ≤ 9223372036854775807 := by omega
  rw [hP] at HP
  rw [← hZ] at qr
  obtain ⟨p, hp⟩ : ∃ p, P.size - 4 = p := ⟨_, rfl⟩
  have hpi : (P.size : Int) - 4 = (p : Int) := by omega
  have hp0 : (0 : Int) ≤ (p : Int) := by omega
  have hp1 : (p : Int) ≤ (P.size : Int) := by omega
  have HPl := hide (show P.size = (padL (Lib.decDigits n.natAbs)).length by rw [← unhide HP]; simp)
  have hdot := hide (dot_bytes P (padL (Lib.decDigits n.natAbs)) (unhide HP) p (by rw [← unhide HPl]; exact hp.symm))
  have hDB := hide (show (⟨(Lib.decDigits n.natAbs).toArray⟩ : ByteArray) = Y from hYD.symm)
  have r1 : (P.extract 0 p).size = p := by rw [ByteArray.size_extract]; omega
  have r2 : (P.extract p P.size).size = 4 := by rw [ByteArray.size_extract]; omega
  have HR1 := hide r1
  have HR2 := hide r2
  have HHP := hide hP
  clear hZ hZs hPs hYs hC hp r1 r2 hYD
  by_cases hn : n < 0
  · have e1 : Lib.itoa n = 45 :: Lib.decDigits n.natAbs := by unfold Lib.itoa; rw [if_pos hn]
    have eL := hide (show decL n = [45] ++ dotL (padL (Lib.decDigits n.natAbs)) by unfold decL; rw [if_pos hn])
    obtain ⟨X, hX⟩ : ∃ X : ByteArray, X = ⟨(45 :: Lib.decDigits n.natAbs).toArray⟩ := ⟨_, rfl⟩
    have hXs : 1 ≤ X.size := by rw [hX]; show 1 ≤ (45 :: Lib.decDigits n.natAbs).toArray.size; simp
    have hex : X.extract 1 X.size = Y := by
      rw [← unhide hDB]
      apply ByteArray.ext
      apply Array.toList_inj.1
      rw [hX]
      simp [ByteArray.data_extract, ByteArray.size]
    have i1 : (1 : Int) ≤ (X.size : Int) := by omega
    rw [e1, ← hX] at qi
    generalize decL n = E at eL
    clear hX e1 hD
    go_enter Tryd.func70, Tryd.ntmps70
    go_wp2_with fail
    refine (unhide qi).mono ?_
    rintro e w1 ⟨rfl, hb⟩
    have B1 := hide hb
    clear hb qi
    go_wp2_with fail
    go_quiet (fail)
    go_wp2_with fail
    refine (unhide qr _).mono ?_
    rintro e w2 ⟨rfl, hb2⟩
    have B2 := hide (bTr (below_drewN (unhide B1) nq) hb2)
    clear hb2 B1
    go_wp2_with fail
    obtain ⟨A1, hA1⟩ : ∃ A1, P.extract 0 p = A1 := ⟨_, rfl⟩
    obtain ⟨A2, hA2⟩ : ∃ A2, P.extract p P.size = A2 := ⟨_, rfl⟩
    have sA1 : A1.size ≤ 26 := by rw [← hA1, unhide HR1]; omega
    have sA2 : A2.size ≤ 26 := by rw [← hA2, unhide HR2]; omega
    rw [hA1, hA2] at hdot
    generalize hS : (⟨#[45]⟩ : ByteArray) = S
    have sS : S.size ≤ 1 := by rw [← hS]; decide
    have fin := hide (show (S ++ A1 ++ ⟨#[46]⟩ ++ A2 : ByteArray) = ⟨E.toArray⟩ by
      rw [ByteArray.append_assoc, ByteArray.append_assoc, ← ByteArray.append_assoc (a := A1), unhide hdot, sign_bytes S _ _ rfl, ← hS, unhide eL])
    have k1 : ¬ 9223372036854775807 < S.size + A1.size := by omega
    have k2 : S.size + A1.size ≤ 9223372036854775807 := by omega
    have k3 : ¬ 9223372036854775806 < S.size + A1.size := by omega
    have k4 : S.size + A1.size ≤ 9223372036854775806 := by omega
    have k5 : ¬ 9223372036854775807 < S.size + A1.size + 1 + A2.size := by omega
    have k6 : S.size + A1.size + 1 + A2.size ≤ 9223372036854775807 := by omega
    clear hS
    go_quiet (fail)
    go_wp2_with fail
    go_ret
    exact ⟨by rw [← unhide fin]; rfl, below_drewN (unhide B2) _⟩
  · have e1 : Lib.itoa n = Lib.decDigits n.natAbs := by unfold Lib.itoa; rw [if_neg hn]; congr 1; omega
    have eL := hide (show decL n = [] ++ dotL (padL (Lib.decDigits n.natAbs)) by unfold decL; rw [if_neg hn])
    rw [e1, unhide hDB] at qi
    generalize decL n = E at eL
    clear e1 hD
    go_enter Tryd.func70, Tryd.ntmps70
    go_wp2_with fail
    refine (unhide qi).mono ?_
    rintro e w1 ⟨rfl, hb⟩
    have B1 := hide hb
    clear hb qi
    go_wp2_with fail
    refine (unhide qr _).mono ?_
    rintro e w2 ⟨rfl, hb2⟩
    have B2 := hide (bTr (unhide B1) hb2)
    clear hb2 B1
    go_wp2_with fail
    obtain ⟨A1, hA1⟩ : ∃ A1, P.extract 0 p = A1 := ⟨_, rfl⟩
    obtain ⟨A2, hA2⟩ : ∃ A2, P.extract p P.size = A2 := ⟨_, rfl⟩
    have sA1 : A1.size ≤ 26 := by rw [← hA1, unhide HR1]; omega
    have sA2 : A2.size ≤ 26 := by rw [← hA2, unhide HR2]; omega
    rw [hA1, hA2] at hdot
    generalize hS : (⟨#[]⟩ : ByteArray) = S
    have sS : S.size ≤ 1 := by rw [← hS]; decide
    have fin := hide (show (S ++ A1 ++ ⟨#[46]⟩ ++ A2 : ByteArray) = ⟨E.toArray⟩ by
      rw [ByteArray.append_assoc, ByteArray.append_assoc, ← ByteArray.append_assoc (a := A1), unhide hdot, sign_bytes S _ _ rfl, ← hS, unhide eL])
    have k1 : ¬ 9223372036854775807 < S.size + A1.size := by omega
    have k2 : S.size + A1.size ≤ 9223372036854775807 := by omega
    have k3 : ¬ 9223372036854775806 < S.size + A1.size := by omega
    have k4 : S.size + A1.size ≤ 9223372036854775806 := by omega
    have k5 : ¬ 9223372036854775807 < S.size + A1.size + 1 + A2.size := by omega
    have k6 : S.size + A1.size + 1 + A2.size ≤ 9223372036854775807 := by omega
    clear hS
    go_quiet (fail)
    go_wp2_with fail
    go_ret
    exact ⟨by rw [← unhide fin]; rfl, below_drewN (unhide B2) _⟩
end Go.Proofs.YtfdfglblcgdoiaaDoor
