/- QAtU, WCmpP, one behind the other. -/
import Derived.Test.YtdflnjjomljgmaaGreatDoorJ14
import Derived.WalkKit
import Derived.Laws.Strings
/- spec.l1Text, spec.AtomText. -/
namespace Go.Proofs.YtdflnjjomljgmaaGreatDoor
open Go.RowKit

theorem zero_pad (D : List UInt8) (h : D.length < 5) : padL (48 :: D) = padL D := by
  unfold padL
  rw [List.length_cons, show 5 - D.length = (5 - (D.length + 1)) + 1 by omega, List.replicate_succ']
  simp
theorem pad_done (D : List UInt8) (h : ¬ D.length < 5) : padL D = D := by
  unfold padL
  rw [show 5 - D.length = 0 by omega]
  rfl

set_option maxRecDepth 8000 in
set_option maxHeartbeats 2000000 in
theorem l1Text_any (k n : Int) (t ty : ByteArray) (w : World) (h8 : -9223372036854775808 ≤ n) (h9 : n ≤ 9223372036854775807) (hg : goodAtom k n t ty = true) :
    Calls Tryz.prog 68 #[.agg #[.int .i64 k, .int .i64 n, .string t, .string ty]] w fun e w' => e = .returned (.string ⟨(atomL k n t ty).toArray⟩) ∧ Below w.heap.size w w' := by
  have B := hide (bAl (Below.refl w.heap.size w) (.cells #[.int .i64 k, .int .i64 n, .string t, .string ty] 40))
  have R := hide (RowIs.new w #[.int .i64 k, .int .i64 n, .string t, .string ty] 40)
  have HG := hide hg
  obtain ⟨k1, k7⟩ := good_kind hg
  clear hg
  have hk : k = 1 ∨ k = 2 ∨ k = 3 ∨ k = 4 ∨ k = 5 ∨ k = 6 ∨ k = 7 := by omega
  rcases hk with rfl | rfl | rfl | rfl | rfl | rfl | rfl
  · by_cases hn : n = 1
    · subst hn
      have d1 : ((1 : Int) == 1) = true := rfl
      go_enter Tryz.func68, Tryz.ntmps68
      go_wp2_with fail
      go_ret
      exact ⟨rfl, unhide B⟩
    · have d1 : (n == 1) = false := by simpa using hn
      have e1 : atomL 1 n t ty = [102, 97, 108, 115, 101] := by unfold atomL; rw [if_pos rfl, if_neg hn]
      rw [e1]
      go_enter Tryz.func68, Tryz.ntmps68
      go_wp2_with fail
      go_ret
      exact ⟨rfl, unhide B⟩
  · have qf := hide (fun w => l1Num_any n w h8 h9)
    go_enter Tryz.func68, Tryz.ntmps68
    go_wp2_with fail
    refine (unhide qf _).mono ?_
    rintro e w2 ⟨rfl, hb2⟩
    go_wp2_with fail
    go_ret
    exact ⟨rfl, bTr (unhide B) hb2⟩
  · have hz := good_text (unhide HG) (.inl rfl)
    have qf := hide (fun w => l1Quoted_any t w hz)
    go_enter Tryz.func68, Tryz.ntmps68
    go_wp2_with fail
    refine (unhide qf _).mono ?_
    rintro e w2 ⟨rfl, hb2⟩
    go_wp2_with fail
    go_ret
    exact ⟨rfl, bTr (unhide B) hb2⟩
  · have hz := good_text (unhide HG) (.inr rfl)
    have hy := good_type (unhide HG)
    have qf := hide (fun w => l1Quoted_any t w hz)
    have hql := quo_len t hz
    obtain ⟨Q, hQ⟩ : ∃ Q : ByteArray, Q = ⟨(quo t.data.toList).toArray⟩ := ⟨_, rfl⟩
    have sQ : Q.size ≤ 1000 := by rw [hQ]; show (quo t.data.toList).toArray.size ≤ _; rw [List.size_toArray]; exact hql
    have fin := hide (show (ty ++ ⟨#[58, 58]⟩ ++ Q : ByteArray) = ⟨(atomL 4 n t ty).toArray⟩ by
      rw [hQ]
      apply ByteArray.ext
      apply Array.toList_inj.1
      simp [ByteArray.data_append, atomL])
    rw [← hQ] at qf
    have k1 : ¬ 9223372036854775805 < ty.size := by omega
    have k2 : ty.size ≤ 9223372036854775805 := by omega
    have k3 : ¬ 9223372036854775807 < ty.size + 2 + Q.size := by omega
    have k4 : ty.size + 2 + Q.size ≤ 9223372036854775807 := by omega
    rw [← unhide fin]
    clear hQ hql fin
    obtain ⟨W, hW⟩ : ∃ W, W = w.alloc (.cells #[.int .i64 4, .int .i64 n, .string t, .string ty] 40) := ⟨_, rfl⟩
    have HW := hide hW
    rw [← hW] at R B
    clear hW
    have zr := (unhide R).lt
    have ne : Nonempty (Kept W) := ⟨⟨W, Below.refl _ _⟩⟩
    have f1 := kept_cell zr ((unhide R).at (o := 2) (v := .string t) rfl)
    have f2 := kept_cell zr ((unhide R).at (o := 3) (v := .string ty) rfl)
    go_enter Tryz.func68, Tryz.ntmps68
    go_wp2_with fail
    rw [← unhide HW]
    refine wp_region_kept (by kernel_rfl) (by kernel_rfl) ?_
    repeat (first
      | go_big_quiet_step ((go_at_call 91; exact kept_call (unhide qf _)))
      | quiet_step ((go_at_call 91; exact kept_call (unhide qf _))))
    refine wpQuiet_nil ?_
    rintro _ ⟨q, rfl⟩
    obtain ⟨w3, hb3⟩ := q
    go_wp2_with fail
    go_ret
    exact ⟨rfl, bTr (unhide B) hb3⟩
  · have qf := hide (fun w => l1Size_any n w h8 h9)
    have hD := dig_len n h8 h9
    obtain ⟨D0, hD0⟩ : ∃ D0, Lib.decDigits n.natAbs = D0 := ⟨_, rfl⟩
    have HE := hide (show atomL 5 n t ty = (if n < 0 then [45] else []) ++ dotL (padL D0) by rw [← hD0]; rfl)
    rw [hD0] at hD qf
    clear hD0
    generalize atomL 5 n t ty = E at HE
    go_enter Tryz.func68, Tryz.ntmps68
    go_wp2_with fail
    refine (unhide qf _).mono ?_
    rintro e w2 ⟨rfl, hb2⟩
    have B2 := hide (bTr (unhide B) hb2)
    replace R := hide ((unhide R).keep hb2)
    clear hb2 qf
    go_wp2_with fail
    go_loopw [3] (fun v w' => ∃ (X : ByteArray), v = .string X ∧ X.size ≤ 26 ∧ Hid (padL X.data.toList = padL D0) ∧ w' = w2) (fun v _ => match v with | .string x => 5 - x.size | _ => 0)
    case atStart => exact ⟨⟨D0.toArray⟩, rfl, by show D0.toArray.size ≤ _; rw [List.size_toArray]; omega, hide (by simp), rfl⟩
    case round =>
      obtain ⟨X, rfl, hX, hp, rfl⟩ := hrel
      have lX : X.data.toList.length = X.size := by simp
      by_cases h5 : X.size < 5
      · have d5 : (X.size : Int) < 5 := by omega
        have st := hide (show padL ((⟨#[48]⟩ : ByteArray) ++ X).data.toList = padL D0 by
          rw [← unhide hp, ← zero_pad X.data.toList (by omega)]
          congr 1)
        have q1 : ¬ 9223372036854775806 < X.size := by omega
        have q2 : X.size ≤ 9223372036854775806 := by omega
        have q3 : ¬ 9223372036854775807 < 1 + X.size := by omega
        have q4 : 1 + X.size ≤ 9223372036854775807 := by omega
        have sz : ((⟨#[48]⟩ : ByteArray) ++ X).size = 1 + X.size := by rw [ByteArray.size_append]; rfl
        have SZ := hide sz
        clear sz lX
        go_wp2_with fail
        refine ⟨⟨(⟨#[48]⟩ : ByteArray) ++ X, rfl, by rw [unhide SZ]; omega, st, by first | rfl | trivial⟩, ?_⟩
        show 5 - ((⟨#[48]⟩ : ByteArray) ++ X).size < 5 - X.size
        rw [unhide SZ]
        omega
      · have d5 : ¬ (X.size : Int) < 5 := by omega
        have eX := hide (show X.data.toList = padL D0 by rw [← unhide hp, pad_done _ (by omega)])
        obtain ⟨p, hpp⟩ : ∃ p, X.size - 4 = p := ⟨_, rfl⟩
        have hpi : (X.size : Int) - 4 = (p : Int) := by omega
        have hp0 : (0 : Int) ≤ (p : Int) := by omega
        have hp1 : (p : Int) ≤ (X.size : Int) := by omega
        have hdot := hide (dot_bytes X (padL D0) (unhide eX) p (by rw [← unhide eX, lX]; exact hpp.symm))
        have r1 : (X.extract 0 p).size ≤ 26 := by rw [ByteArray.size_extract]; omega
        have r2 : (X.extract p X.size).size ≤ 26 := by rw [ByteArray.size_extract]; omega
        obtain ⟨A1, hA1⟩ : ∃ A1, X.extract 0 p = A1 := ⟨_, rfl⟩
        obtain ⟨A2, hA2⟩ : ∃ A2, X.extract p X.size = A2 := ⟨_, rfl⟩
        rw [hA1, hA2] at hdot
        rw [hA1] at r1
        rw [hA2] at r2
        have k1 : ¬ 9223372036854775806 < A1.size := by omega
        have k2 : A1.size ≤ 9223372036854775806 := by omega
        have k3 : ¬ 9223372036854775807 < A1.size + 1 + A2.size := by omega
        have k4 : A1.size + 1 + A2.size ≤ 9223372036854775807 := by omega
        have sd : (A1 ++ ⟨#[46]⟩ ++ A2 : ByteArray).size ≤ 60 := by
          rw [ByteArray.size_append, ByteArray.size_append]
          have : (⟨#[46]⟩ : ByteArray).size = 1 := rfl
          omega
        have SD := hide sd
        clear lX hpp sd
        go_wp2_with fail
        go_quiet (fail)
        obtain ⟨Z, hZ⟩ : ∃ Z : ByteArray, A1 ++ ⟨#[46]⟩ ++ A2 = Z := ⟨_, rfl⟩
        rw [hZ] at hdot SD
        have c1 := (unhide R).at (o := 1) (v := .int .i64 n) rfl
        have sZ := unhide SD
        have k5 : ¬ 9223372036854775806 < Z.size := by omega
        have k6 : Z.size ≤ 9223372036854775806 := by omega
        have k7 : ¬ 9223372036854775807 < 1 + Z.size := by omega
        have k8 : 1 + Z.size ≤ 9223372036854775807 := by omega
        by_cases hn : n < 0
        · have fin := hide (show (⟨#[45]⟩ ++ Z : ByteArray) = ⟨E.toArray⟩ by rw [sign_bytes ⟨#[45]⟩ _ _ (unhide hdot), unhide HE, if_pos hn])
          go_wp2_with fail
          go_ret
          exact ⟨by rw [← unhide fin]; rfl, below_drewN (unhide B2) _⟩
        · have fin := hide (show Z = ⟨E.toArray⟩ by rw [unhide hdot, unhide HE, if_neg hn]; rfl)
          go_wp2_with fail
          go_ret
          exact ⟨by rw [← unhide fin]; rfl, below_drewN (unhide B2) _⟩
  · exact l1TextA_any n t ty w h8 h9 (unhide HG)
  · have qf := hide (fun w => l1Num_any n w h8 h9)
    have bl := Lib.itoa_length_le n h8 h9
    have ew := hide (at_word n)
    have sI : (⟨(Lib.itoa n).toArray⟩ : ByteArray).size ≤ 21 := by show (Lib.itoa n).toArray.size ≤ _; rw [List.size_toArray]; exact bl
    have eA : Hid ((⟨(atomL 7 n t ty).toArray⟩ : ByteArray) = ⟨(64 :: Lib.itoa n).toArray⟩) := hide rfl
    generalize (⟨(Lib.itoa n).toArray⟩ : ByteArray) = I at qf ew sI
    rw [unhide eA, ← unhide ew]
    have k1 : ¬ 9223372036854775806 < I.size := by omega
    have k2 : I.size ≤ 9223372036854775806 := by omega
    have k3 : ¬ 9223372036854775807 < 1 + I.size := by omega
    have k4 : 1 + I.size ≤ 9223372036854775807 := by omega
    clear eA ew bl
    go_enter Tryz.func68, Tryz.ntmps68
    go_wp2_with fail
    refine (unhide qf _).mono ?_
    rintro e w2 ⟨rfl, hb2⟩
    go_wp2_with fail
    go_ret
    exact ⟨rfl, bTr (unhide B) hb2⟩

end Go.Proofs.YtdflnjjomljgmaaGreatDoor
/- WCmpP, ported from seat 1a. -/
namespace Go.Proofs.YtdflnjjomljgmaaGreatDoor.V

def cmpN (a b : Int) : Int := if a < b then -1 else if b < a then 1 else 0
def cmpT : List UInt8 → List UInt8 → Int
  | [], [] => 0
  | [], _ :: _ => -1
  | _ :: _, [] => 1
  | a :: x, b :: y => if a = b then cmpT x y else cmpN a.toNat b.toNat

theorem cmpN_self (a : Int) : cmpN a a = 0 := by unfold cmpN; rw [if_neg (Int.lt_irrefl a), if_neg (Int.lt_irrefl a)]
theorem cmpN_cases (a b : Int) : cmpN a b = -1 ∨ cmpN a b = 0 ∨ cmpN a b = 1 := by
  unfold cmpN; split
  · exact .inl rfl
  · split
    · exact .inr (.inr rfl)
    · exact .inr (.inl rfl)
theorem cmpN_zero {a b : Int} (h : cmpN a b = 0) : a = b := by
  unfold cmpN at h
  split at h
  · simp at h
  · split at h
    · simp at h
    · omega
theorem cmpT_cases : ∀ a b : List UInt8, cmpT a b = -1 ∨ cmpT a b = 0 ∨ cmpT a b = 1
  | [], [] => by simp [cmpT]
  | [], _ :: _ => by simp [cmpT]
  | _ :: _, [] => by simp [cmpT]
  | a :: x, b :: y => by
    unfold cmpT
    split
    · exact cmpT_cases x y
    · exact cmpN_cases _ _
theorem cmpT_self : ∀ a : List UInt8, cmpT a a = 0
  | [] => rfl
  | a :: x => by unfold cmpT; rw [if_pos rfl]; exact cmpT_self x
theorem u8_eq {a b : UInt8} (h : (a.toNat : Int) = (b.toNat : Int)) : a = b := UInt8.toNat_inj.1 (by omega)
theorem cmpT_zero : ∀ {a b : List UInt8}, cmpT a b = 0 → a = b
  | [], [], _ => rfl
  | [], _ :: _, h => by simp [cmpT] at h
  | _ :: _, [], h => by simp [cmpT] at h
  | a :: x, b :: y, h => by
    unfold cmpT at h
    split at h
    · rename_i e; rw [e, cmpT_zero h]
    · rename_i e; exact absurd (u8_eq (cmpN_zero h)) e

/-- The order by '<' and '=='. -/
theorem cmpT_less : ∀ a b : List UInt8, cmpT a b = if Op.bytesLess a b then -1 else if a == b then 0 else 1
  | [], [] => by simp [cmpT, Op.bytesLess]
  | [], _ :: _ => by simp [cmpT, Op.bytesLess]
  | _ :: _, [] => by simp [cmpT, Op.bytesLess]
  | a :: x, b :: y => by
    unfold cmpT
    by_cases e : a = b
    · subst e
      rw [if_pos rfl, cmpT_less x y]
      simp [Op.bytesLess]
    · rw [if_neg e]
      unfold cmpN
      have hb : (a == b) = false := by simpa using e
      by_cases l : a < b
      · have l' : (a.toNat : Int) < (b.toNat : Int) := by have := UInt8.lt_iff_toNat_lt.1 l; omega
        rw [if_pos l']
        simp [Op.bytesLess, l]
      · have l' : ¬ (a.toNat : Int) < (b.toNat : Int) := by
          intro h; exact l (UInt8.lt_iff_toNat_lt.2 (by omega))
        have l2 : (b.toNat : Int) < (a.toNat : Int) := by
          have : ¬ (a.toNat : Int) = (b.toNat : Int) := fun h => e (u8_eq h)
          omega
        rw [if_neg l', if_pos l2]
        simp [Op.bytesLess, l, hb]

/-- What is the same ahead falls away. -/
theorem cmpT_drop_step (a b : List UInt8) (k : Nat) (ha : k < a.length) (hb : k < b.length) (e : a[k] = b[k]) : cmpT (a.drop k) (b.drop k) = cmpT (a.drop (k + 1)) (b.drop (k + 1)) := by
  rw [List.drop_eq_getElem_cons ha, List.drop_eq_getElem_cons hb]
  show (if a[k] = b[k] then _ else _) = _
  rw [if_pos e]
theorem cmpT_drop_differ (a b : List UInt8) (k : Nat) (ha : k < a.length) (hb : k < b.length) (e : ¬ a[k] = b[k]) : cmpT (a.drop k) (b.drop k) = cmpN a[k].toNat b[k].toNat := by
  rw [List.drop_eq_getElem_cons ha, List.drop_eq_getElem_cons hb]
  show (if a[k] = b[k] then _ else _) = _
  rw [if_neg e]
theorem cmpT_drop_end (a b : List UInt8) (k : Nat) (h : k = a.length ∧ k ≤ b.length ∨ k ≤ a.length ∧ k = b.length) : cmpT (a.drop k) (b.drop k) = cmpN a.length b.length := by
  rcases h with ⟨h1, h2⟩ | ⟨h1, h2⟩
  · rw [List.drop_of_length_le (by omega)]
    by_cases h : k < b.length
    · rw [List.drop_eq_getElem_cons h]; show -1 = cmpN _ _
      unfold cmpN; rw [if_pos (by omega)]
    · rw [List.drop_of_length_le (by omega)]; show 0 = cmpN _ _
      rw [show (a.length : Int) = b.length by omega, cmpN_self]
  · rw [List.drop_of_length_le (l := b) (by omega)]
    by_cases h : k < a.length
    · rw [List.drop_eq_getElem_cons h]; show 1 = cmpN _ _
      unfold cmpN; rw [if_neg (by omega), if_pos (by omega)]
    · rw [List.drop_of_length_le (by omega)]; show 0 = cmpN _ _
      rw [show (a.length : Int) = b.length by omega, cmpN_self]

/-- The order of atoms, good ones. -/
def orI (a b : Int) : Int := if a = 0 then b else a
def cmpA (x n : Int) (t y : ByteArray) (x' n' : Int) (t' y' : ByteArray) : Int :=
  orI (cmpN x x') (orI (cmpN n n') (orI (cmpT y.data.toList y'.data.toList) (cmpT t.data.toList t'.data.toList)))
end Go.Proofs.YtdflnjjomljgmaaGreatDoor.V
