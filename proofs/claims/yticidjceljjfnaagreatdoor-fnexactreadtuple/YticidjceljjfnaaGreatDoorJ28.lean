/- APar, AGw, one behind the other. -/
import Derived.Test.YticidjceljjfnaaGreatDoorJ27
/- What spec.l1Guess does to bytes: parts at points and slashes, zeros ahead; pure. -/
namespace Go.Proofs.YticidjceljjfnaaGreatDoor

def sepB (c : UInt8) : Bool := c == 46 || c == 47
/-- The parts of a text between points and slashes. -/
def sp : List UInt8 → List (List UInt8)
  | [] => [[]]
  | c :: t => if sepB c then [] :: sp t else match sp t with
    | [] => [[c]]
    | p :: r => (c :: p) :: r
theorem sp_ne : ∀ l : List UInt8, ∃ p r, sp l = p :: r
  | [] => ⟨[], [], rfl⟩
  | c :: t => by
    unfold sp
    split
    · exact ⟨_, _, rfl⟩
    · obtain ⟨p, r, e⟩ := sp_ne t
      rw [e]; exact ⟨_, _, rfl⟩
theorem sp_app : ∀ (a : List UInt8) (c : UInt8) (r : List UInt8), (∀ x ∈ a, sepB x = false) → sepB c = true → sp (a ++ c :: r) = a :: sp r
  | [], c, r, _, hc => by
    show sp (c :: r) = _
    rw [sp]; simp [hc]
  | x :: a, c, r, ha, hc => by
    have ih := sp_app a c r (fun y hy => ha y (List.mem_cons_of_mem _ hy)) hc
    show sp (x :: (a ++ c :: r)) = _
    rw [sp]; simp [ha x (by simp), ih]
theorem sp_last : ∀ a : List UInt8, (∀ x ∈ a, sepB x = false) → sp a = [a]
  | [], _ => rfl
  | x :: a, ha => by
    have ih := sp_last a (fun y hy => ha y (List.mem_cons_of_mem _ hy))
    rw [sp]; simp [ha x (by simp), ih]
theorem nc_sep {x : UInt8} (h : NC x) : sepB x = false := by
  have := nc_not h
  unfold sepB
  simp [this.1, this.2.1]
theorem sp_dec {A B : List UInt8} (hA : ∀ x ∈ A, NC x) (hB : ∀ x ∈ B, Dig x) : sp (A ++ 46 :: B) = [A, B] := by
  rw [sp_app A 46 B (fun x hx => nc_sep (hA x hx)) (by decide), sp_last B (fun x hx => nc_sep (dig_nc (hB x hx)))]
theorem sp_blk (f b : Int) : sp (blkL f b) = (four f).map Lib.itoa ++ [Lib.itoa b] := by
  have n : ∀ m : Int, ∀ x ∈ Lib.itoa m, sepB x = false := fun m x hx => nc_sep (itoa_nc m x hx)
  have e : blkL f b = Lib.itoa (f / 16777216) ++ 46 :: (Lib.itoa (f / 65536 % 256) ++ 46 :: (Lib.itoa (f / 256 % 256) ++ 46 :: (Lib.itoa (f % 256) ++ 47 :: Lib.itoa b))) := by
    unfold blkL four
    simp [Lib.join, List.intercalate]
  rw [e, sp_app _ 46 _ (n _) (by decide), sp_app _ 46 _ (n _) (by decide), sp_app _ 46 _ (n _) (by decide), sp_app _ 47 _ (n _) (by decide), sp_last _ (n _)]
  rfl
/-- Zeros ahead left out. -/
def strip : List UInt8 → List UInt8
  | c :: d :: t => if c = 48 then strip (d :: t) else c :: d :: t
  | l => l
theorem dval_pos : ∀ (D : List UInt8) (a : Nat), 1 ≤ a → 1 ≤ dval a D := fun D a h => Nat.le_trans h (dval_le D a)
/-- Digits that do not open with nought are the digits of their number. -/
theorem dec_of_val (D : List UInt8) : (∀ x ∈ D, Dig x) → D ≠ [] → (∀ x, D.head? = some x → ¬ x = 48) → Lib.decDigits (dval 0 D) = D := by
  have main : ∀ (n : Nat) (D : List UInt8), D.length = n → (∀ x ∈ D, Dig x) → D ≠ [] → (∀ x, D.head? = some x → ¬ x = 48) → Lib.decDigits (dval 0 D) = D := by
    intro n
    induction n with
    | zero => intro D h _ hne; exact absurd (List.length_eq_zero_iff.1 h) hne
    | succ n ih =>
      intro D h hd hne hh
      obtain ⟨I, c, rfl⟩ : ∃ I c, D = I ++ [c] := ⟨D.dropLast, D.getLast hne, (List.dropLast_concat_getLast hne).symm⟩
      have hc := hd c (by simp)
      unfold Dig at hc
      rw [dval_app]
      by_cases hI : I = []
      · subst hI
        have e : dval 0 ([] : List UInt8) * 10 + (c.toNat - 48) = c.toNat - 48 := by show 0 * 10 + _ = _; omega
        rw [e, Lib.decDigits, dif_pos (by omega)]
        show [_] = [c]
        congr 1
        apply UInt8.toNat_inj.1
        rw [dig_val _ (by omega)]
        omega
      · have hhI : ∀ x, I.head? = some x → ¬ x = 48 := by
          intro x hx
          apply hh x
          cases I with
          | nil => exact absurd rfl hI
          | cons y I => exact hx
        have ihI := ih I (by simpa using h) (fun x hx => hd x (by simp [hx])) hI hhI
        have hv : 1 ≤ dval 0 I := by
          cases I with
          | nil => exact absurd rfl hI
          | cons y I =>
            have hy := hd y (by simp)
            unfold Dig at hy
            have hy2 : ¬ y = 48 := hhI y rfl
            have hy3 : ¬ y.toNat = 48 := fun e => hy2 (UInt8.toNat_inj.1 e)
            rw [dval_cons]
            exact dval_pos I _ (by omega)
        rw [Lib.decDigits, dif_neg (by omega), show (dval 0 I * 10 + (c.toNat - 48)) / 10 = dval 0 I by omega, ihI, show (dval 0 I * 10 + (c.toNat - 48)) % 10 = c.toNat - 48 by omega]
        congr 2
        apply UInt8.toNat_inj.1
        rw [dig_val _ (by omega)]
        omega
  exact main D.length D rfl
theorem strip_dec : ∀ D : List UInt8, D ≠ [] → (∀ x ∈ D, Dig x) → strip D = Lib.decDigits (dval 0 D) := by
  have main : ∀ (n : Nat) (D : List UInt8), D.length = n → D ≠ [] → (∀ x ∈ D, Dig x) → strip D = Lib.decDigits (dval 0 D) := by
    intro n
    induction n with
    | zero => intro D h hne; exact absurd (List.length_eq_zero_iff.1 h) hne
    | succ n ih =>
      intro D h hne hd
      match D, h, hne, hd with
      | [c], _, _, hd =>
        have hc := hd c (by simp)
        unfold Dig at hc
        show [c] = _
        have e : dval 0 [c] = c.toNat - 48 := by rw [dval_cons]; show 0 * 10 + (c.toNat - 48) = _; omega
        rw [e, Lib.decDigits, dif_pos (by omega)]
        congr 1
        apply UInt8.toNat_inj.1
        rw [dig_val _ (by omega)]
        omega
      | c :: d :: t, h, _, hd =>
        have hc := hd c (by simp)
        by_cases h48 : c = 48
        · unfold strip
          rw [if_pos h48, ih (d :: t) (by simpa using h) (by simp) (fun x hx => hd x (List.mem_cons_of_mem _ hx))]
          congr 1
          rw [h48, dval_cons 0 48]
          rfl
        · unfold strip
          rw [if_neg h48]
          symm
          exact dec_of_val (c :: d :: t) hd (by simp) (fun x hx => by injection hx with e; rw [e] at h48; exact h48)
  intro D hne hd
  exact main D.length D rfl hne hd
end Go.Proofs.YticidjceljjfnaaGreatDoor
/- impl.guessAtom: the walk. -/
namespace Go.Proofs.YticidjceljjfnaaGreatDoor
open Go.RowKit
set_option maxRecDepth 20000

theorem list_cons {s : ByteArray} (h : 0 < s.size) : s.data.toList = s[0] :: s.data.toList.drop 1 := by
  have : s.data.toList.drop 0 = _ := List.drop_eq_getElem_cons (l := s.data.toList) (i := 0) (by rw [sz_list]; exact h)
  rw [List.drop_zero] at this
  exact this
theorem ext_one (s : ByteArray) : (s.extract 1 s.size).data.toList = s.data.toList.drop 1 := by rw [cut_drop]
set_option maxHeartbeats 4000000 in
theorem guessAtom_any (s : ByteArray) (w : World) (hs : s.size ≤ 1048576) (hE : Env w) :
    Calls Tryz.prog 132 #[.string s] w fun e w' => GARet s.data.toList e ∧ Below w.heap.size w w' := by
  have zs := sz_list s
  have b0 := bAl (Below.refl w.heap.size w) (.cells zAt 32)
  have B0 := hide b0
  have HE := hide (hE.keep b0)
  have R := hide (RowIs.new w zAt 32)
  clear hE b0
  by_cases h0 : s.data.toList = []
  · obtain rfl : s = ⟨#[]⟩ := eq_bytes h0
    go_enter Tryz.func132, Tryz.ntmps132
    go_wp2_with fail
    refine bodyPost_ret (v := .agg #[.int .i64 0, .int .i64 0, .string ⟨#[]⟩, .string ⟨#[]⟩]) (by simp [results, Tryz.results132, go_sem]) rfl ⟨⟨_, _, _, _, rfl, ga_nil⟩, ?_⟩
    exact unhide B0
  by_cases h1 : s.data.toList = [116, 114, 117, 101]
  · obtain rfl : s = ⟨#[116, 114, 117, 101]⟩ := eq_bytes h1
    go_enter Tryz.func132, Tryz.ntmps132
    go_wp2_with fail
    refine bodyPost_ret (v := .agg #[.int .i64 1, .int .i64 1, .string ⟨#[]⟩, .string ⟨#[]⟩]) (by simp [results, Tryz.results132, go_sem]) rfl ⟨⟨_, _, _, _, rfl, ga_tru⟩, ?_⟩
    first | exact bAl (Below.refl _ _) _ | exact below_set (below_set (below_set (below_set (bAl (Below.refl _ _) _) (Nat.le_refl _)) (Nat.le_refl _)) (Nat.le_refl _)) (Nat.le_refl _)
  by_cases h2 : s.data.toList = [102, 97, 108, 115, 101]
  · obtain rfl : s = ⟨#[102, 97, 108, 115, 101]⟩ := eq_bytes h2
    go_enter Tryz.func132, Tryz.ntmps132
    go_wp2_with fail
    refine bodyPost_ret (v := .agg #[.int .i64 1, .int .i64 0, .string ⟨#[]⟩, .string ⟨#[]⟩]) (by simp [results, Tryz.results132, go_sem]) rfl ⟨⟨_, _, _, _, rfl, ga_fal⟩, ?_⟩
    first | exact bAl (Below.refl _ _) _ | exact below_set (below_set (below_set (below_set (bAl (Below.refl _ _) _) (Nat.le_refl _)) (Nat.le_refl _)) (Nat.le_refl _)) (Nat.le_refl _)
  have hz : 0 < s.size := by
    rw [← zs]
    cases h : s.data.toList with
    | nil => exact absurd h h0
    | cons c r => simp
  have e0 : s.toList.isEmpty = false := by
    rw [ByteArray.toList_eq]
    cases h : s.data.toList with
    | nil => exact absurd h h0
    | cons c r => rfl
  have e1 := neq_list h1
  have e2 := neq_list h2
  have ntf : Hid (NTF s.data.toList) := hide ⟨h1, h2⟩
  have hl := list_cons hz
  obtain ⟨c, hc⟩ : ∃ c, s[0] = c := ⟨_, rfl⟩
  rw [hc] at hl
  obtain ⟨r, hr⟩ : ∃ r, s.data.toList.drop 1 = r := ⟨_, rfl⟩
  have hX1 : (s.extract 1 s.size).data.toList = r := by rw [ext_one, hr]
  rw [hr] at hl
  have zr : r.length ≤ 1048576 := by have := congrArg List.length hl; rw [zs] at this; simp at this; omega
  have HL := hide hl
  rw [hl]
  rw [hl] at ntf
  clear h0 h1 h2 hl
  have e34 : ((c.toNat : Int) == 34) = decide (c = 34) := u8_is (n := 34) (by decide)
  have e64 : ((c.toNat : Int) == 64) = decide (c = 64) := u8_is (n := 64) (by decide)
  by_cases h34 : c = 34
  · have ga := hide (ga_txt (r := r) (T := ⟨(gtx (s.data.toList.drop 1)).toArray⟩) (by rw [sz_arr]; have := gtx_len (s.data.toList.drop 1); rw [hr] at this ⊢; omega) (fun t ht => by rw [hr, show r = (quo t).drop 1 by rw [← ht]; rfl, gtx_quo]))
    have q := hide (fun w => guessText_any s w hs)
    generalize (⟨(gtx (s.data.toList.drop 1)).toArray⟩ : ByteArray) = T at ga q
    rw [decide_eq_true h34] at e34
    rw [h34]
    clear h34 e64
    go_enter Tryz.func132, Tryz.ntmps132
    go_wp2_with fail
    refine (unhide q _).mono ?_
    rintro e w2 ⟨rfl, hb2⟩
    have R2 := (unhide R).keep hb2
    have B2 := hide (bTr (unhide B0) hb2)
    have j0 : w2.cell? ⟨w.heap.size, 0, none⟩ = some (.int .i64 0) := R2.get rfl
    have j1 : w2.cell? ⟨w.heap.size, 1, none⟩ = some (.int .i64 0) := R2.get rfl
    have j2 : w2.cell? ⟨w.heap.size, 2, none⟩ = some (.string ⟨#[]⟩) := R2.get rfl
    have j3 : w2.cell? ⟨w.heap.size, 3, none⟩ = some (.string ⟨#[]⟩) := R2.get rfl
    have f0 := R2.frz 0
    have f1 := R2.frz 1
    have f2 := R2.frz 2
    have f3 := R2.frz 3
    clear hb2 R2
    go_wp2_with fail
    refine bodyPost_ret (v := .agg #[.int .i64 3, .int .i64 0, .string T, .string ⟨#[]⟩]) (by simp [results, Tryz.results132, go_sem, j0, j1, j2, j3]) rfl ⟨⟨_, _, _, _, rfl, unhide ga⟩, ?_⟩
    exact below_set (below_set (below_set (below_set (unhide B2) (Nat.le_refl _)) (Nat.le_refl _)) (Nat.le_refl _)) (Nat.le_refl _)
  rw [decide_eq_false h34] at e34
  by_cases h64 : c = 64
  · have X : (s.extract 1 s.size).size ≤ 1048576 := by rw [ByteArray.size_extract]; omega
    have q := hide (fun w h => guessNum_any (s.extract 1 s.size) w X h)
    rw [hX1] at q
    rw [decide_eq_true h64] at e64
    rw [h64]
    clear h64 h34 X hX1
    go_enter Tryz.func132, Tryz.ntmps132
    go_wp2_with fail
    refine (unhide q _ (unhide HE)).mono ?_
    rintro e w2 ⟨⟨N, rfl, ⟨hN0, hN1⟩, hv⟩, hb2⟩
    have ga := hide (ga_tim (r := r) hN0 hN1 (fun n a b e => hv n (by rw [e]; exact atoi_itoa n a b)))
    clear hv
    have R2 := (unhide R).keep hb2
    have B2 := hide (bTr (unhide B0) hb2)
    have j0 : w2.cell? ⟨w.heap.size, 0, none⟩ = some (.int .i64 0) := R2.get rfl
    have j1 : w2.cell? ⟨w.heap.size, 1, none⟩ = some (.int .i64 0) := R2.get rfl
    have j2 : w2.cell? ⟨w.heap.size, 2, none⟩ = some (.string ⟨#[]⟩) := R2.get rfl
    have j3 : w2.cell? ⟨w.heap.size, 3, none⟩ = some (.string ⟨#[]⟩) := R2.get rfl
    have f0 := R2.frz 0
    have f1 := R2.frz 1
    have f2 := R2.frz 2
    have f3 := R2.frz 3
    clear hb2 R2
    go_wp2_with fail
    refine bodyPost_ret (v := .agg #[.int .i64 7, .int .i64 N, .string ⟨#[]⟩, .string ⟨#[]⟩]) (by simp [results, Tryz.results132, go_sem, j0, j1, j2, j3]) rfl ⟨⟨_, _, _, _, rfl, unhide ga⟩, ?_⟩
    exact below_set (below_set (below_set (below_set (unhide B2) (Nat.le_refl _)) (Nat.le_refl _)) (Nat.le_refl _)) (Nat.le_refl _)
  rw [decide_eq_false h64] at e64
  clear hX1
  cases hsn : namB (c.toNat : Int) with
  | true =>
    have HS := hide hsn
    have ga := hide (ga_ref (c := c) (r := r) (T := refT s.data.toList) (Y := refY s.data.toList) (by unfold refT; rw [sz_arr]; have h1 := gtx_len ((Lib.cut s.data.toList [58, 58]).2.1.drop 1); have h2 := cut_len s.data.toList [58, 58]; rw [List.length_drop] at h1; omega) (by unfold refY; rw [sz_arr]; have h2 := cut_len s.data.toList [58, 58]; omega) (unhide ntf) h34 h64 (fun h => by have := (nc_not h).2.2.2.2.2.2.2; rw [hsn] at this; cases this) (fun y t hy e => by
      have e2 : Lib.cut s.data.toList [58, 58] = (y, quo t, true) := by rw [unhide HL, e]; exact cut_two 58 y (quo t) hy
      unfold refY refT
      rw [e2]
      exact ⟨rfl, gtx_quo t⟩))
    have q := hide (guessRef_any s _ hs (unhide HE))
    generalize refT s.data.toList = T at ga q
    generalize refY s.data.toList = Y at ga q
    clear hsn
    go_enter Tryz.func132, Tryz.ntmps132
    go_wp2_with (go_at_call 62; refine (startsName_any _ _).mono ?_; rintro e w' ⟨rfl, rfl⟩; rw [unhide HS])
    refine (unhide q).mono ?_
    rintro e w2 ⟨rfl, hb2⟩
    have R2 := (unhide R).keep hb2
    have B2 := hide (bTr (unhide B0) hb2)
    have j0 : w2.cell? ⟨w.heap.size, 0, none⟩ = some (.int .i64 0) := R2.get rfl
    have j1 : w2.cell? ⟨w.heap.size, 1, none⟩ = some (.int .i64 0) := R2.get rfl
    have j2 : w2.cell? ⟨w.heap.size, 2, none⟩ = some (.string ⟨#[]⟩) := R2.get rfl
    have j3 : w2.cell? ⟨w.heap.size, 3, none⟩ = some (.string ⟨#[]⟩) := R2.get rfl
    have f0 := R2.frz 0
    have f1 := R2.frz 1
    have f2 := R2.frz 2
    have f3 := R2.frz 3
    clear hb2 R2
    go_wp2_with fail
    refine bodyPost_ret (v := .agg #[.int .i64 4, .int .i64 0, .string T, .string Y]) (by simp [results, Tryz.results132, go_sem, j0, j1, j2, j3]) rfl ⟨⟨_, _, _, _, rfl, unhide ga⟩, ?_⟩
    exact below_set (below_set (below_set (below_set (unhide B2) (Nat.le_refl _)) (Nat.le_refl _)) (Nat.le_refl _)) (Nat.le_refl _)
  | false =>
    have HS := hide hsn
    have nor : Hid (namB (c.toNat : Int) = true → ∀ y t : List UInt8, ¬ c :: r = y ++ 58 :: 58 :: quo t) := hide (fun h => by rw [hsn] at h; cases h)
    clear hsn
    by_cases h47 : (47 : UInt8) ∈ s.data.toList
    · have H47 := hide (decide_eq_true ((ix_mem s.data.toList 47).2 h47))
      have G47 := hide (show (47 : UInt8) ∈ c :: r by rw [← unhide HL]; exact h47)
      have q := hide (guessBlock_any s _ hs (unhide HE))
      rw [unhide HL] at q
      clear h47
      go_enter Tryz.func132, Tryz.ntmps132
      go_wp2_with (first | (go_at_call 62; refine (startsName_any _ _).mono ?_; rintro e w' ⟨rfl, rfl⟩; rw [unhide HS]) | (go_at_call 149; refine (Tryz.strings_Contains_one s 47 _).mono ?_; rintro e w' ⟨rfl, rfl⟩; rw [unhide H47]))
      refine (unhide q).mono ?_
      rintro e w2 ⟨⟨N, rfl, ⟨hN0, hN1⟩, hv⟩, hb2⟩
      have ga := hide (ga_adr (c := c) (r := r) hN0 hN1 (unhide ntf) h34 h64 (unhide nor) (unhide G47) hv)
      clear hv
      have R2 := (unhide R).keep hb2
      have B2 := hide (bTr (unhide B0) hb2)
      have j0 : w2.cell? ⟨w.heap.size, 0, none⟩ = some (.int .i64 0) := R2.get rfl
      have j1 : w2.cell? ⟨w.heap.size, 1, none⟩ = some (.int .i64 0) := R2.get rfl
      have j2 : w2.cell? ⟨w.heap.size, 2, none⟩ = some (.string ⟨#[]⟩) := R2.get rfl
      have j3 : w2.cell? ⟨w.heap.size, 3, none⟩ = some (.string ⟨#[]⟩) := R2.get rfl
      have f0 := R2.frz 0
      have f1 := R2.frz 1
      have f2 := R2.frz 2
      have f3 := R2.frz 3
      clear hb2 R2
      go_wp2_with fail
      refine bodyPost_ret (v := .agg #[.int .i64 6, .int .i64 N, .string ⟨#[]⟩, .string ⟨#[]⟩]) (by simp [results, Tryz.results132, go_sem, j0, j1, j2, j3]) rfl ⟨⟨_, _, _, _, rfl, unhide ga⟩, ?_⟩
      exact below_set (below_set (below_set (below_set (unhide B2) (Nat.le_refl _)) (Nat.le_refl _)) (Nat.le_refl _)) (Nat.le_refl _)
    have H47 := hide (decide_eq_false (fun h => h47 ((ix_mem s.data.toList 47).1 h)))
    have G47 := hide (show (47 : UInt8) ∉ c :: r by rw [← unhide HL]; exact h47)
    clear h47
    by_cases h46 : (46 : UInt8) ∈ s.data.toList
    · have H46 := hide (decide_eq_true ((ix_mem s.data.toList 46).2 h46))
      have G46 := hide (show (46 : UInt8) ∈ c :: r by rw [← unhide HL]; exact h46)
      obtain ⟨m, hm⟩ := (unhide HE).max
      obtain ⟨A, B, eAB, hA⟩ := first_of 46 s.data.toList h46
      have ei : Lib.index s.data.toList [46] = A.length := by rw [eAB]; exact index_app 46 [] A B hA
      have hcb : Lib.countB s ⟨#[46]⟩ ≠ 0 := by
        show Lib.count s.data.toList [46] ≠ 0
        rw [Lib.count_hit (by simp) ei]; omega
      have q := hide (Tryz.strings_Replace_some s ⟨#[46]⟩ ⟨#[]⟩ 1 m _ (by omega) hm (by decide) (by intro e; cases e) (by omega) hcb (by show s.size + Lib.countB s ⟨#[46]⟩ * 0 ≤ _; omega))
      rw [show (⟨#[46]⟩ : ByteArray).data.toList = [46] from rfl, show (⟨#[]⟩ : ByteArray).data.toList = [] from rfl] at q
      have hrep : Lib.replaceK [46] [] (Lib.replaceNum s.data.toList [46] 1) s.data.toList = A ++ B := by rw [eAB]; exact replace_one A B 46 hA
      rw [hrep] at q
      have zX : (⟨(A ++ B).toArray⟩ : ByteArray).size ≤ 1048576 := by rw [sz_arr]; have := congrArg List.length eAB; rw [zs] at this; simp at this ⊢; omega
      have q2 := hide (fun w h => guessNum_any ⟨(A ++ B).toArray⟩ w zX h)
      rw [show (⟨(A ++ B).toArray⟩ : ByteArray).data.toList = A ++ B by simp] at q2
      have hu := hide (show ∀ A' B' : List UInt8, c :: r = A' ++ 46 :: B' → (∀ x ∈ A', NC x) → A' ++ B' = A ++ B from fun A' B' e hA' => by
        have h1 : (46 : UInt8) ∉ A' := fun h => (nc_not (hA' _ h)).1 rfl
        have e3 := cutC_app 46 A B hA
        rw [← eAB, unhide HL, e, cutC_app 46 A' B' h1] at e3
        injection e3 with e4 e5
        rw [e4, e5])
      generalize (⟨(A ++ B).toArray⟩ : ByteArray) = X at q q2
      clear h46 hm eAB hA ei hcb hrep zX
      go_enter Tryz.func132, Tryz.ntmps132
      go_wp2_with (first | (go_at_call 62; refine (startsName_any _ _).mono ?_; rintro e w' ⟨rfl, rfl⟩; rw [unhide HS]) | (go_at_call 149; refine (Tryz.strings_Contains_one s 47 _).mono ?_; rintro e w' ⟨rfl, rfl⟩; rw [unhide H47]) | (go_at_call 149; refine (Tryz.strings_Contains_one s 46 _).mono ?_; rintro e w' ⟨rfl, rfl⟩; rw [unhide H46]))
      refine (unhide q).mono ?_
      rintro e w2 ⟨rfl, hb1⟩
      have HE2 := hide ((unhide HE).keep hb1)
      go_wp2_with fail
      refine (unhide q2 _ (unhide HE2)).mono ?_
      rintro e w3 ⟨⟨N, rfl, ⟨hN0, hN1⟩, hv⟩, hb2⟩
      have hb3 := bTr hb1 hb2
      have ga := hide (ga_dec (c := c) (r := r) hN0 hN1 (unhide ntf) h34 h64 (unhide nor) (unhide G47) (unhide G46) (fun A' B' n e _ hA' _ hv' => hv n (by rw [← unhide hu A' B' e hA']; exact hv')))
      clear hv hb1 hb2
      have R2 := (unhide R).keep hb3
      have B2 := hide (bTr (unhide B0) hb3)
      have j0 : w3.cell? ⟨w.heap.size, 0, none⟩ = some (.int .i64 0) := R2.get rfl
      have j1 : w3.cell? ⟨w.heap.size, 1, none⟩ = some (.int .i64 0) := R2.get rfl
      have j2 : w3.cell? ⟨w.heap.size, 2, none⟩ = some (.string ⟨#[]⟩) := R2.get rfl
      have j3 : w3.cell? ⟨w.heap.size, 3, none⟩ = some (.string ⟨#[]⟩) := R2.get rfl
      have f0 := R2.frz 0
      have f1 := R2.frz 1
      have f2 := R2.frz 2
      have f3 := R2.frz 3
      clear hb3 R2
      go_wp2_with fail
      refine bodyPost_ret (v := .agg #[.int .i64 5, .int .i64 N, .string ⟨#[]⟩, .string ⟨#[]⟩]) (by simp [results, Tryz.results132, go_sem, j0, j1, j2, j3]) rfl ⟨⟨_, _, _, _, rfl, unhide ga⟩, ?_⟩
      exact below_set (below_set (below_set (below_set (unhide B2) (Nat.le_refl _)) (Nat.le_refl _)) (Nat.le_refl _)) (Nat.le_refl _)
    have H46 := hide (decide_eq_false (fun h => h46 ((ix_mem s.data.toList 46).1 h)))
    have G46 := hide (show (46 : UInt8) ∉ c :: r by rw [← unhide HL]; exact h46)
    have q := hide (guessNum_any s _ hs (unhide HE))
    rw [unhide HL] at q
    clear h46
    go_enter Tryz.func132, Tryz.ntmps132
    go_wp2_with (first | (go_at_call 62; refine (startsName_any _ _).mono ?_; rintro e w' ⟨rfl, rfl⟩; rw [unhide HS]) | (go_at_call 149; refine (Tryz.strings_Contains_one s 47 _).mono ?_; rintro e w' ⟨rfl, rfl⟩; rw [unhide H47]) | (go_at_call 149; refine (Tryz.strings_Contains_one s 46 _).mono ?_; rintro e w' ⟨rfl, rfl⟩; rw [unhide H46]))
    refine (unhide q).mono ?_
    rintro e w2 ⟨⟨N, rfl, ⟨hN0, hN1⟩, hv⟩, hb2⟩
    have ga := hide (ga_num (c := c) (r := r) hN0 hN1 (unhide ntf) h34 h64 (unhide nor) (unhide G47) (unhide G46) (fun n a b e => hv n (by rw [e]; exact atoi_itoa n a b)))
    clear hv
    have R2 := (unhide R).keep hb2
    have B2 := hide (bTr (unhide B0) hb2)
    have j0 : w2.cell? ⟨w.heap.size, 0, none⟩ = some (.int .i64 0) := R2.get rfl
    have j1 : w2.cell? ⟨w.heap.size, 1, none⟩ = some (.int .i64 0) := R2.get rfl
    have j2 : w2.cell? ⟨w.heap.size, 2, none⟩ = some (.string ⟨#[]⟩) := R2.get rfl
    have j3 : w2.cell? ⟨w.heap.size, 3, none⟩ = some (.string ⟨#[]⟩) := R2.get rfl
    have f0 := R2.frz 0
    have f1 := R2.frz 1
    have f2 := R2.frz 2
    have f3 := R2.frz 3
    clear hb2 R2
    go_wp2_with fail
    refine bodyPost_ret (v := .agg #[.int .i64 2, .int .i64 N, .string ⟨#[]⟩, .string ⟨#[]⟩]) (by simp [results, Tryz.results132, go_sem, j0, j1, j2, j3]) rfl ⟨⟨_, _, _, _, rfl, unhide ga⟩, ?_⟩
    exact below_set (below_set (below_set (below_set (unhide B2) (Nat.le_refl _)) (Nat.le_refl _)) (Nat.le_refl _)) (Nat.le_refl _)
end Go.Proofs.YticidjceljjfnaaGreatDoor
