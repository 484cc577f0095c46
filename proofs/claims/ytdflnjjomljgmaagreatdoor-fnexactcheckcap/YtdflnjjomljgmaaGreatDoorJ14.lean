/- QAtT, QAtV, one behind the other. -/
import Derived.Test.YtdflnjjomljgmaaGreatDoorJ13
/- impl.AtomText. -/
namespace Go.Proofs.YtdflnjjomljgmaaGreatDoor
open Go.RowKit

/-- The text of a good atom. -/
def atomL (k n : Int) (t ty : ByteArray) : List UInt8 :=
  if k = 1 then (if n = 1 then [116, 114, 117, 101] else [102, 97, 108, 115, 101])
  else if k = 3 then quo t.data.toList
  else if k = 4 then ty.data.toList ++ [58, 58] ++ quo t.data.toList
  else if k = 5 then decL n
  else if k = 6 then blkL (n / 64) (n % 64)
  else if k = 7 then 64 :: Lib.itoa n
  else Lib.itoa n
def atomT (k n : Int) (t ty : ByteArray) : ByteArray := if goodAtom k n t ty = true then ⟨(atomL k n t ty).toArray⟩ else ⟨#[]⟩

theorem good_kind {k n : Int} {t ty : ByteArray} (h : goodAtom k n t ty = true) : 1 ≤ k ∧ k ≤ 7 := by
  unfold goodAtom at h
  split at h
  · omega
  · split at h
    · omega
    · split at h
      · omega
      · cases h
theorem good_text {k n : Int} {t ty : ByteArray} (h : goodAtom k n t ty = true) (hk : k = 3 ∨ k = 4) : t.size ≤ 200 := by
  unfold goodAtom gText at h
  rcases hk with rfl | rfl
  · simp at h; exact h.2.1
  · simp at h; exact h.2.1
theorem good_type {n : Int} {t ty : ByteArray} (h : goodAtom 4 n t ty = true) : ty.size ≤ 30 := by
  unfold goodAtom goodName nameL at h
  simp at h
  omega
theorem good_addr {n : Int} {t ty : ByteArray} (h : goodAtom 6 n t ty = true) : 0 ≤ n ∧ n / 64 < 4294967296 ∧ n % 64 ≤ 32 := by
  unfold goodAtom numB blockB at h
  simp at h
  omega
theorem quo_len (t : ByteArray) (h : t.size ≤ 200) : (quo t.data.toList).length ≤ 1000 := by
  have h2 : ∀ l : List UInt8, (qs l).length ≤ 2 * l.length := by
    intro l
    induction l with
    | nil => simp [qs]
    | cons c l ih =>
      have : qs (c :: l) = qb c ++ qs l := by simp [qs]
      rw [this, List.length_append, List.length_cons]
      have : (qb c).length ≤ 2 := by unfold qb; split <;> simp
      omega
  have := h2 t.data.toList
  have l1 : t.data.toList.length = t.size := by simp
  unfold quo
  simp only [List.length_cons, List.length_append, List.length_nil]
  omega
theorem at_word (n : Int) : (⟨#[64]⟩ ++ ⟨(Lib.itoa n).toArray⟩ : ByteArray) = ⟨(64 :: Lib.itoa n).toArray⟩ := app_one 64 _

set_option maxRecDepth 8000 in
set_option maxHeartbeats 2000000 in
theorem iAtomText_any (k n : Int) (t ty : ByteArray) (w : World) (h8 : -9223372036854775808 ≤ n) (h9 : n ≤ 9223372036854775807) (ht : t.size ≤ maxLen) (hty : ty.size ≤ maxLen) (hT : Tab w) :
    Calls Tryz.prog 122 #[.agg #[.int .i64 k, .int .i64 n, .string t, .string ty]] w fun e w' => e = .returned (.string (atomT k n t ty)) ∧ Below w.heap.size w w' := by
  have qg := hide (fun w => iGoodAtom_any k n t ty w h9 ht hty)
  have B := hide (bAl (Below.refl w.heap.size w) (.cells #[.int .i64 k, .int .i64 n, .string t, .string ty] 40))
  have R := hide (RowIs.new w #[.int .i64 k, .int .i64 n, .string t, .string ty] 40)
  have HT := hide (hT.keep (unhide B))
  unfold atomT
  cases hg : goodAtom k n t ty
  · rw [hg] at qg
    rw [if_neg (by simp)]
    clear hg hT
    go_enter Tryz.func122, Tryz.ntmps122
    go_wp2_with fail
    refine (unhide qg _).mono ?_
    rintro e w1 ⟨rfl, hb⟩
    go_wp2_with fail
    go_ret
    exact ⟨rfl, bTr (unhide B) hb⟩
  rw [hg] at qg
  rw [if_pos rfl]
  have HG := hide hg
  obtain ⟨k1, k7⟩ := good_kind hg
  clear hg hT ht hty
  have hk : k = 1 ∨ k = 2 ∨ k = 3 ∨ k = 4 ∨ k = 5 ∨ k = 6 ∨ k = 7 := by omega
  rcases hk with rfl | rfl | rfl | rfl | rfl | rfl | rfl
  · have e1 : atomL 1 n t ty = Lib.formatBool (n == 1) := by unfold atomL; rw [if_pos rfl]; by_cases h : n = 1 <;> simp [h, Lib.formatBool] <;> rfl
    rw [e1]
    have qf := hide (fun w => Tryz.strconv_FormatBool (n == 1) w)
    go_enter Tryz.func122, Tryz.ntmps122
    go_wp2_with fail
    refine (unhide qg _).mono ?_
    rintro e w1 ⟨rfl, hb⟩
    have c0 := ((unhide R).keep hb).at (o := 0) (v := .int .i64 1) rfl
    have c1 := ((unhide R).keep hb).at (o := 1) (v := .int .i64 n) rfl
    go_wp2_with fail
    refine (unhide qf _).mono ?_
    rintro e w2 ⟨rfl, rfl⟩
    go_wp2_with fail
    go_ret
    exact ⟨rfl, bTr (unhide B) hb⟩
  · have qf := hide (fun w h => itoa_any n w h8 h9 h)
    go_enter Tryz.func122, Tryz.ntmps122
    go_wp2_with fail
    refine (unhide qg _).mono ?_
    rintro e w1 ⟨rfl, hb⟩
    have c0 := ((unhide R).keep hb).at (o := 0) (v := .int .i64 2) rfl
    have c1 := ((unhide R).keep hb).at (o := 1) (v := .int .i64 n) rfl
    go_wp2_with fail
    refine (unhide qf _ ((unhide HT).keep hb)).mono ?_
    rintro e w2 ⟨rfl, hb2⟩
    go_wp2_with fail
    go_ret
    exact ⟨rfl, bTr (bTr (unhide B) hb) hb2⟩
  · have hz := good_text (unhide HG) (.inl rfl)
    have qf := hide (fun w => quotedText_any t w hz)
    go_enter Tryz.func122, Tryz.ntmps122
    go_wp2_with fail
    refine (unhide qg _).mono ?_
    rintro e w1 ⟨rfl, hb⟩
    have c0 := ((unhide R).keep hb).at (o := 0) (v := .int .i64 3) rfl
    have c1 := ((unhide R).keep hb).at (o := 2) (v := .string t) rfl
    go_wp2_with fail
    refine (unhide qf _).mono ?_
    rintro e w2 ⟨rfl, hb2⟩
    go_wp2_with fail
    go_ret
    exact ⟨rfl, bTr (bTr (unhide B) hb) hb2⟩
  · have hz := good_text (unhide HG) (.inr rfl)
    have hy := good_type (unhide HG)
    have qf := hide (fun w => quotedText_any t w hz)
    have hql := quo_len t hz
    obtain ⟨Q, hQ⟩ : ∃ Q : ByteArray, Q = ⟨(quo t.data.toList).toArray⟩ := ⟨_, rfl⟩
    have sQ : Q.size ≤ 1000 := by rw [hQ]; show (quo t.data.toList).toArray.size ≤ _; rw [List.size_toArray]; exact hql
    have fin := hide (show (ty ++ ⟨#[58, 58]⟩ ++ Q : ByteArray) = ⟨(atomL 4 n t ty).toArray⟩ by
      rw [hQ]
      apply ByteArray.ext
      apply Array.toList_inj.1
      simp [ByteArray.data_append, atomL])
    rw [← hQ] at qf
    have k1 : ¬ 9223372036854775805 < ty.size := by omega
    have k2 : ty.size ≤ 9223372036854775805 := by omega
    have k3 : ¬ 9223372036854775807 < ty.size + 2 + Q.size := by omega
    have k4 : ty.size + 2 + Q.size ≤ 9223372036854775807 := by omega
    rw [← unhide fin]
    clear hQ hql fin
    go_enter Tryz.func122, Tryz.ntmps122
    go_wp2_with fail
    refine (unhide qg _).mono ?_
    rintro e w1 ⟨rfl, hb⟩
    have c0 := ((unhide R).keep hb).at (o := 0) (v := .int .i64 4) rfl
    have c1 := ((unhide R).keep hb).at (o := 2) (v := .string t) rfl
    have c2 := ((unhide R).keep hb).at (o := 3) (v := .string ty) rfl
    have zr := ((unhide R).keep hb).lt
    have ne : Nonempty (Kept w1) := ⟨⟨w1, Below.refl _ _⟩⟩
    have f1 := kept_cell zr c1
    have f2 := kept_cell zr c2
    go_wp2_with fail
    refine wp_region_kept (by kernel_rfl) (by kernel_rfl) ?_
    repeat (first
      | go_big_quiet_step ((go_at_call 136; exact kept_call (unhide qf _)))
      | quiet_step ((go_at_call 136; exact kept_call (unhide qf _))))
    refine wpQuiet_nil ?_
    rintro _ ⟨q, rfl⟩
    obtain ⟨w3, hb3⟩ := q
    go_wp2_with fail
    go_ret
    exact ⟨rfl, bTr (bTr (unhide B) hb) hb3⟩
  · have qf := hide (fun w h => decimalText_any n w h8 h9 h)
    go_enter Tryz.func122, Tryz.ntmps122
    go_wp2_with fail
    refine (unhide qg _).mono ?_
    rintro e w1 ⟨rfl, hb⟩
    have c0 := ((unhide R).keep hb).at (o := 0) (v := .int .i64 5) rfl
    have c1 := ((unhide R).keep hb).at (o := 1) (v := .int .i64 n) rfl
    go_wp2_with fail
    refine (unhide qf _ ((unhide HT).keep hb)).mono ?_
    rintro e w2 ⟨rfl, hb2⟩
    go_wp2_with fail
    go_ret
    exact ⟨rfl, bTr (bTr (unhide B) hb) hb2⟩
  · obtain ⟨a0, a1, a2⟩ := good_addr (unhide HG)
    have qo := hide (fun w => blockOf_any n w a0 h9)
    have qf := hide (fun w h => blockText_any (n / 64) (n % 64) w (by omega) a1 (by omega) a2 h)
    go_enter Tryz.func122, Tryz.ntmps122
    go_wp2_with fail
    refine (unhide qg _).mono ?_
    rintro e w1 ⟨rfl, hb⟩
    have c0 := ((unhide R).keep hb).at (o := 0) (v := .int .i64 6) rfl
    have c1 := ((unhide R).keep hb).at (o := 1) (v := .int .i64 n) rfl
    go_wp2_with fail
    refine (unhide qo _).mono ?_
    rintro e w2 ⟨rfl, hw2⟩
    have hb2 : Below w1.heap.size w1 w2 := by rw [hw2]; exact bAl (Below.refl _ _) _
    clear hw2
    go_wp2_with fail
    refine (unhide qf _ (((unhide HT).keep hb).keep hb2)).mono ?_
    rintro e w3 ⟨rfl, hb3⟩
    go_wp2_with fail
    go_ret
    exact ⟨rfl, bTr (bTr (bTr (unhide B) hb) hb2) hb3⟩
  · have qf := hide (fun w h => itoa_any n w h8 h9 h)
    have bl := Lib.itoa_length_le n h8 h9
    have ew := hide (at_word n)
    have sI : (⟨(Lib.itoa n).toArray⟩ : ByteArray).size ≤ 21 := by show (Lib.itoa n).toArray.size ≤ _; rw [List.size_toArray]; exact bl
    have eA : Hid ((⟨(atomL 7 n t ty).toArray⟩ : ByteArray) = ⟨(64 :: Lib.itoa n).toArray⟩) := hide rfl
    generalize (⟨(Lib.itoa n).toArray⟩ : ByteArray) = I at qf ew sI
    rw [unhide eA, ← unhide ew]
    have k1 : ¬ 9223372036854775806 < I.size := by omega
    have k2 : I.size ≤ 9223372036854775806 := by omega
    have k3 : ¬ 9223372036854775807 < 1 + I.size := by omega
    have k4 : 1 + I.size ≤ 9223372036854775807 := by omega
    clear eA ew bl
    go_enter Tryz.func122, Tryz.ntmps122
    go_wp2_with fail
    refine (unhide qg _).mono ?_
    rintro e w1 ⟨rfl, hb⟩
    have c0 := ((unhide R).keep hb).at (o := 0) (v := .int .i64 7) rfl
    have c1 := ((unhide R).keep hb).at (o := 1) (v := .int .i64 n) rfl
    go_wp2_with fail
    refine (unhide qf _ ((unhide HT).keep hb)).mono ?_
    rintro e w2 ⟨rfl, hb2⟩
    go_wp2_with fail
    go_ret
    exact ⟨rfl, bTr (bTr (unhide B) hb) hb2⟩
end Go.Proofs.YtdflnjjomljgmaaGreatDoor
/- spec.l1Text at an address. -/
namespace Go.Proofs.YtdflnjjomljgmaaGreatDoor
open Go.RowKit

set_option maxRecDepth 8000 in
set_option maxHeartbeats 2000000 in
theorem l1TextA_any (n : Int) (t ty : ByteArray) (w : World) (h8 : -9223372036854775808 ≤ n) (h9 : n ≤ 9223372036854775807) (hg : goodAtom 6 n t ty = true) :
    Calls Tryz.prog 68 #[.agg #[.int .i64 6, .int .i64 n, .string t, .string ty]] w fun e w' => e = .returned (.string ⟨(atomL 6 n t ty).toArray⟩) ∧ Below w.heap.size w w' := by
  have B := hide (bAl (Below.refl w.heap.size w) (.cells #[.int .i64 6, .int .i64 n, .string t, .string ty] 40))
  have R := hide (RowIs.new w #[.int .i64 6, .int .i64 n, .string t, .string ty] 40)
  have HG := hide hg
  clear hg
  obtain ⟨a0, a1, a2⟩ := good_addr (unhide HG)
  have qo := hide (fun w => l1Block_any 6 n t ty w a0 h9 a2)
  have HE := hide (show atomL 6 n t ty = blkL (n / 64) (n % 64) from rfl)
  generalize atomL 6 n t ty = E at HE
  obtain ⟨F, hF⟩ : ∃ F, n / 64 = F := ⟨_, rfl⟩
  have hF0 : 0 ≤ F := by omega
  have hF1 : F < 4294967296 := by omega
  have hm0 : 0 ≤ n % 64 := by omega
  rw [hF] at qo HE
  clear hF a1
  obtain ⟨x1, ex1⟩ : ∃ x, F / 16777216 = x := ⟨_, rfl⟩
  obtain ⟨x2, ex2⟩ : ∃ x, F / 65536 % 256 = x := ⟨_, rfl⟩
  obtain ⟨x3, ex3⟩ : ∃ x, F / 256 % 256 = x := ⟨_, rfl⟩
  obtain ⟨x4, ex4⟩ : ∃ x, F % 256 = x := ⟨_, rfl⟩
  obtain ⟨x5, ex5⟩ : ∃ x, n % 64 = x := ⟨_, rfl⟩
  have HE2 := hide (show blkL F (n % 64) = Lib.join ([x1, x2, x3, x4].map Lib.itoa) [46] ++ 47 :: Lib.itoa x5 by rw [← ex1, ← ex2, ← ex3, ← ex4, ← ex5]; rfl)
  have b1 : 0 ≤ x1 ∧ x1 ≤ 4294967296 := by omega
  have b2 : 0 ≤ x2 ∧ x2 ≤ 4294967296 := by omega
  have b3 : 0 ≤ x3 ∧ x3 ≤ 4294967296 := by omega
  have b4 : 0 ≤ x4 ∧ x4 ≤ 4294967296 := by omega
  have b5 : 0 ≤ x5 ∧ x5 ≤ 4294967296 := by omega
  obtain ⟨I, hI⟩ : ∃ I : Int → ByteArray, ∀ x, I x = ⟨(Lib.itoa x).toArray⟩ := ⟨fun x => ⟨(Lib.itoa x).toArray⟩, fun x => rfl⟩
  have HI := hide hI
  have qn := hide (show ∀ x w, (0 ≤ x ∧ x ≤ 4294967296) → Calls Tryz.prog 90 #[.int .i64 x] w fun e w' => e = .returned (.string (I x)) ∧ Below w.heap.size w w' from
    fun x w hx => by rw [unhide HI]; exact l1Num_any x w (by omega) (by omega))
  have zn : ∀ x : Int, (0 ≤ x ∧ x ≤ 4294967296) → (I x).size ≤ 21 := fun x hx => by
    rw [unhide HI]; show (Lib.itoa x).toArray.size ≤ _; rw [List.size_toArray]; exact Lib.itoa_length_le x (by omega) (by omega)
  have z1 := zn x1 b1
  have z2 := zn x2 b2
  have z3 := zn x3 b3
  have z4 := zn x4 b4
  have z5 := zn x5 b5
  clear hI zn
  have fin := hide (show (I x1 ++ ⟨#[46]⟩ ++ I x2 ++ ⟨#[46]⟩ ++ I x3 ++ ⟨#[46]⟩ ++ I x4 ++ ⟨#[47]⟩ ++ I x5 : ByteArray) = ⟨E.toArray⟩ by
    rw [unhide HE, unhide HE2, unhide HI, unhide HI, unhide HI, unhide HI, unhide HI]
    apply ByteArray.ext
    apply Array.toList_inj.1
    simp [ByteArray.data_append, Lib.join, List.intercalate])
  have s1 : ¬ 9223372036854775806 < (I x1).size := by omega
  have s2 : ¬ 9223372036854775807 < (I x1).size + 1 + (I x2).size := by omega
  have s3 : ¬ 9223372036854775806 < (I x1).size + 1 + (I x2).size := by omega
  have s4 : ¬ 9223372036854775807 < (I x1).size + 1 + (I x2).size + 1 + (I x3).size := by omega
  have s5 : ¬ 9223372036854775806 < (I x1).size + 1 + (I x2).size + 1 + (I x3).size := by omega
  have s6 : ¬ 9223372036854775807 < (I x1).size + 1 + (I x2).size + 1 + (I x3).size + 1 + (I x4).size := by omega
  have s7 : ¬ 9223372036854775806 < (I x1).size + 1 + (I x2).size + 1 + (I x3).size + 1 + (I x4).size := by omega
  have s8 : ¬ 9223372036854775807 < (I x1).size + 1 + (I x2).size + 1 + (I x3).size + 1 + (I x4).size + 1 + (I x5).size := by omega
  go_enter Tryz.func68, Tryz.ntmps68
  go_wp2_with fail
  refine (unhide qo _).mono ?_
  rintro e w2 ⟨rfl, hb2⟩
  have B2 := hide (bTr (unhide B) hb2)
  replace R := hide ((unhide R).keep hb2)
  clear hb2 qo
  have ne : Nonempty (Kept w2) := ⟨⟨w2, Below.refl _ _⟩⟩
  have f1 := kept_cell (unhide R).lt ((unhide R).at (o := 1) (v := .int .i64 n) rfl)
  go_wp2_with fail
  refine wp_region_kept (by kernel_rfl) (by kernel_rfl) ?_
  repeat (first
    | go_big_quiet_step ((go_at_call 90; exact kept_call (unhide qn _ _ (by assumption))))
    | quiet_step ((go_at_call 90; exact kept_call (unhide qn _ _ (by assumption)))))
  refine wpQuiet_nil ?_
  rintro _ ⟨q, rfl⟩
  obtain ⟨w3, hb3⟩ := q
  go_wp2_with fail
  go_ret
  exact ⟨by rw [← unhide fin]; rfl, bTr (unhide B2) hb3⟩
end Go.Proofs.YtdflnjjomljgmaaGreatDoor
