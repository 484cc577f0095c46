/- AGi, QWho, one behind the other. -/
import Derived.Test.YticidjceljjfnaaGreatDoorJ26
import Derived.Test.YticidjceljjfnaaGreatDoorJ8
import Derived.Test.YticidjceljjfnaaGreatDoorJ2
import Derived.Test.YticidjceljjfnaaGreatDoorJ11
/- impl.guessAtom. -/
namespace Go.Proofs.YticidjceljjfnaaGreatDoor
open Go.RowKit
set_option maxRecDepth 20000

theorem neq_list {s : ByteArray} {l : List UInt8} (h : ¬ s.data.toList = l) : (s.toList == l) = false := by
  rw [ByteArray.toList_eq]
  simpa using h
theorem eq_bytes {s : ByteArray} {l : List UInt8} (h : s.data.toList = l) : s = ⟨l.toArray⟩ := by
  rw [← mk_list s, h]
theorem gtx_len : ∀ l : List UInt8, (gtx l).length ≤ l.length
  | [] => Nat.le_refl _
  | [_] => Nat.zero_le _
  | c :: d :: t => by
    have h1 := gtx_len t
    have h2 := gtx_len (d :: t)
    simp only [gtx]
    split
    · simp; omega
    · simp only [List.length_cons] at h2 ⊢; omega
theorem sz_arr (l : List UInt8) : (⟨l.toArray⟩ : ByteArray).size = l.length := by show l.toArray.size = _; simp
theorem quo_toList (t : ByteArray) : (⟨(gtx ((quo t.data.toList).drop 1)).toArray⟩ : ByteArray) = t := by rw [gtx_quo, mk_list]

theorem ga_nil : GA [] 0 0 eB eB := ga_of (by omega) (by omega) (Nat.zero_le _) (Nat.zero_le _) (fun c r e => by cases e)
theorem ga_tru : GA [116, 114, 117, 101] 1 1 eB eB := ga_of (by omega) (by omega) (Nat.zero_le _) (Nat.zero_le _) (fun c r e k n t y _ _ h => by
  injection e with e1 e2
  cases h with
  | tru a b p q _ => exact ⟨a.symm, b.symm, p.symm, q.symm⟩
  | fal _ _ _ _ l => rw [← e1] at l; injection l with l; exact absurd l (by decide)
  | txt _ _ _ l => rw [← e1] at l; exact absurd l (by decide)
  | tim _ _ _ l => rw [← e1] at l; exact absurd l (by decide)
  | ref _ _ _ _ l =>
    have : (58 : UInt8) ∈ c :: r := by rw [l]; simp
    rw [← e1, ← e2] at this
    exact absurd this (by decide)
  | adr _ _ _ l => exact absurd e1.symm (nc_not l).2.2.2.2.2.1
  | dec _ _ _ _ _ l => exact absurd e1.symm (nc_not l).2.2.2.2.2.1
  | num _ _ _ l => exact absurd e1.symm (nc_not l).2.2.2.2.2.1)
theorem ga_fal : GA [102, 97, 108, 115, 101] 1 0 eB eB := ga_of (by omega) (by omega) (Nat.zero_le _) (Nat.zero_le _) (fun c r e k n t y _ _ h => by
  injection e with e1 e2
  cases h with
  | fal a b p q _ => exact ⟨a.symm, b.symm, p.symm, q.symm⟩
  | tru _ _ _ _ l => rw [← e1] at l; injection l with l; exact absurd l (by decide)
  | txt _ _ _ l => rw [← e1] at l; exact absurd l (by decide)
  | tim _ _ _ l => rw [← e1] at l; exact absurd l (by decide)
  | ref _ _ _ _ l =>
    have : (58 : UInt8) ∈ c :: r := by rw [l]; simp
    rw [← e1, ← e2] at this
    exact absurd this (by decide)
  | adr _ _ _ l => exact absurd e1.symm (nc_not l).2.2.2.2.2.2.1
  | dec _ _ _ _ _ l => exact absurd e1.symm (nc_not l).2.2.2.2.2.2.1
  | num _ _ _ l => exact absurd e1.symm (nc_not l).2.2.2.2.2.2.1)
theorem ga_txt {r : List UInt8} {T : ByteArray} (zT : T.size ≤ 1100000) (hT : ∀ t, 34 :: r = quo t → T.data.toList = t) : GA (34 :: r) 3 0 T eB :=
  ga_of (by omega) (by omega) zT (Nat.zero_le _) (fun c r' e k n t y _ _ h => by
    injection e with e1 e2
    subst e2
    cases h with
    | tru _ _ _ _ l => rw [← e1] at l; injection l with l; exact absurd l (by decide)
    | fal _ _ _ _ l => rw [← e1] at l; injection l with l; exact absurd l (by decide)
    | txt a b q _ l =>
      rw [← e1] at l
      refine ⟨a.symm, b.symm, ?_, q.symm⟩
      have := hT _ l
      rw [← mk_list T, this, mk_list]
    | tim _ _ _ l => rw [← e1] at l; exact absurd l (by decide)
    | ref _ _ l => rw [← e1] at l; exact absurd l (by decide)
    | adr _ _ _ l => exact absurd e1.symm (nc_not l).2.2.2.1
    | dec _ _ _ _ _ l => exact absurd e1.symm (nc_not l).2.2.2.1
    | num _ _ _ l => exact absurd e1.symm (nc_not l).2.2.2.1)
theorem ga_tim {r : List UInt8} {N : Int} (h0 : -9223372036854775808 ≤ N) (h1 : N ≤ 9223372036854775807) (hN : ∀ n : Int, -9223372036854775808 ≤ n → n ≤ 9223372036854775807 → r = Lib.itoa n → N = n) : GA (64 :: r) 7 N eB eB :=
  ga_of h0 h1 (Nat.zero_le _) (Nat.zero_le _) (fun c r' e k n t y g0 g1 h => by
    injection e with e1 e2
    subst e1 e2
    cases h with
    | tru _ _ _ _ l => injection l with l; exact absurd l (by decide)
    | fal _ _ _ _ l => injection l with l; exact absurd l (by decide)
    | txt _ _ _ l => exact absurd l (by decide)
    | tim a p q _ l => exact ⟨a.symm, hN n g0 g1 l, p.symm, q.symm⟩
    | ref _ _ l => exact absurd l (by decide)
    | adr _ _ _ l => exact absurd rfl (nc_not l).2.2.2.2.1
    | dec _ _ _ _ _ l => exact absurd rfl (nc_not l).2.2.2.2.1
    | num _ _ _ l => exact absurd rfl (nc_not l).2.2.2.2.1)
/-- Neither true nor false. -/
def NTF (l : List UInt8) : Prop := ¬ l = [116, 114, 117, 101] ∧ ¬ l = [102, 97, 108, 115, 101]
theorem ga_ref {c : UInt8} {r : List UInt8} {T Y : ByteArray} (zT : T.size ≤ 1100000) (zY : Y.size ≤ 1100000) (hn : NTF (c :: r)) (h34 : ¬ c = 34) (h64 : ¬ c = 64) (hx : NC c → (58 : UInt8) ∈ c :: r)
    (hT : ∀ y t : List UInt8, (58 : UInt8) ∉ y → c :: r = y ++ 58 :: 58 :: quo t → Y.data.toList = y ∧ T.data.toList = t) : GA (c :: r) 4 0 T Y :=
  ga_of (by omega) (by omega) zT zY (fun c' r' e k n t y _ _ h => by
    injection e with e1 e2
    subst e1 e2
    cases h with
    | tru _ _ _ _ l => exact absurd l hn.1
    | fal _ _ _ _ l => exact absurd l hn.2
    | txt _ _ _ l => exact absurd l h34
    | tim _ _ _ l => exact absurd l h64
    | ref a b _ h58 l =>
      obtain ⟨p, q⟩ := hT _ _ h58 l
      exact ⟨a.symm, b.symm, by rw [← mk_list T, q, mk_list], by rw [← mk_list Y, p, mk_list]⟩
    | adr _ _ _ l _ _ _ _ _ _ l2 => exact absurd (hx l) l2
    | dec _ _ _ _ _ l _ _ _ _ _ _ l2 => exact absurd (hx l) l2
    | num _ _ _ l l2 =>
      have := hx l
      rw [l2] at this
      exact absurd rfl (nc_not (itoa_nc _ _ this)).2.2.1)
theorem ga_adr {c : UInt8} {r : List UInt8} {N : Int} (h0 : -9223372036854775808 ≤ N) (h1 : N ≤ 9223372036854775807) (hn : NTF (c :: r)) (h34 : ¬ c = 34) (h64 : ¬ c = 64)
    (hr : namB (c.toNat : Int) = true → ∀ y t : List UInt8, ¬ c :: r = y ++ 58 :: 58 :: quo t) (h47 : (47 : UInt8) ∈ c :: r)
    (hN : ∀ f b : Int, 0 ≤ f → f < 4294967296 → 0 ≤ b → b ≤ 32 → c :: r = blkL f b → N = f * 64 + b) : GA (c :: r) 6 N eB eB :=
  ga_of h0 h1 (Nat.zero_le _) (Nat.zero_le _) (fun c' r' e k n t y _ _ h => by
    injection e with e1 e2
    subst e1 e2
    cases h with
    | tru _ _ _ _ l => exact absurd l hn.1
    | fal _ _ _ _ l => exact absurd l hn.2
    | txt _ _ _ l => exact absurd l h34
    | tim _ _ _ l => exact absurd l h64
    | ref _ _ a _ l => exact absurd l (hr a _ _)
    | adr a p q _ b1 b2 b3 b4 l => exact ⟨a.symm, by rw [hN _ _ b1 b2 b3 b4 l]; omega, p.symm, q.symm⟩
    | dec _ _ _ _ _ _ _ _ _ _ _ l => exact absurd h47 l
    | num _ _ _ _ _ l => exact absurd h47 l)
theorem ga_dec {c : UInt8} {r : List UInt8} {N : Int} (h0 : -9223372036854775808 ≤ N) (h1 : N ≤ 9223372036854775807) (hn : NTF (c :: r)) (h34 : ¬ c = 34) (h64 : ¬ c = 64)
    (hr : namB (c.toNat : Int) = true → ∀ y t : List UInt8, ¬ c :: r = y ++ 58 :: 58 :: quo t) (h47 : (47 : UInt8) ∉ c :: r) (h46 : (46 : UInt8) ∈ c :: r)
    (hN : ∀ (A B : List UInt8) (n : Int), c :: r = A ++ 46 :: B → c :: r = decL n → (∀ x ∈ A, NC x) → (∀ x ∈ B, Dig x) → Lib.atoiAll (A ++ B) = .ok n → N = n) : GA (c :: r) 5 N eB eB :=
  ga_of h0 h1 (Nat.zero_le _) (Nat.zero_le _) (fun c' r' e k n t y _ _ h => by
    injection e with e1 e2
    subst e1 e2
    cases h with
    | tru _ _ _ _ l => exact absurd l hn.1
    | fal _ _ _ _ l => exact absurd l hn.2
    | txt _ _ _ l => exact absurd l h34
    | tim _ _ _ l => exact absurd l h64
    | ref _ _ a _ l => exact absurd l (hr a _ _)
    | adr _ _ _ _ _ _ _ _ _ l => exact absurd l h47
    | dec A B a p q _ l0 l l1 l2 l3 => exact ⟨a.symm, hN A B n l l0 l1 l2 l3, p.symm, q.symm⟩
    | num _ _ _ _ _ _ l => exact absurd h46 l)
theorem ga_num {c : UInt8} {r : List UInt8} {N : Int} (h0 : -9223372036854775808 ≤ N) (h1 : N ≤ 9223372036854775807) (hn : NTF (c :: r)) (h34 : ¬ c = 34) (h64 : ¬ c = 64)
    (hr : namB (c.toNat : Int) = true → ∀ y t : List UInt8, ¬ c :: r = y ++ 58 :: 58 :: quo t) (h47 : (47 : UInt8) ∉ c :: r) (h46 : (46 : UInt8) ∉ c :: r)
    (hN : ∀ n : Int, -9223372036854775808 ≤ n → n ≤ 9223372036854775807 → c :: r = Lib.itoa n → N = n) : GA (c :: r) 2 N eB eB :=
  ga_of h0 h1 (Nat.zero_le _) (Nat.zero_le _) (fun c' r' e k n t y g0 g1 h => by
    injection e with e1 e2
    subst e1 e2
    cases h with
    | tru _ _ _ _ l => exact absurd l hn.1
    | fal _ _ _ _ l => exact absurd l hn.2
    | txt _ _ _ l => exact absurd l h34
    | tim _ _ _ l => exact absurd l h64
    | ref _ _ a _ l => exact absurd l (hr a _ _)
    | adr _ _ _ _ _ _ _ _ _ l => exact absurd l h47
    | dec A B _ _ _ _ _ l => exact absurd (by rw [l]; simp) h46
    | num a p q _ l => exact ⟨a.symm, hN n g0 g1 l, p.symm, q.symm⟩)
end Go.Proofs.YticidjceljjfnaaGreatDoor
/- spec.l1Whole: the number that a text tells. -/
namespace Go.Proofs.YticidjceljjfnaaGreatDoor
open Go.RowKit
set_option maxRecDepth 20000

/-- What the number n and the word b are of a text. -/
structure WholeIs (l : List UInt8) (n : Int) (b : Bool) : Prop where
  h0 : -9223372036854775808 ≤ n
  h1 : n ≤ 9223372036854775807
  yes : b = true → l = Lib.itoa n
  all : ∀ m : Int, -9223372036854775808 ≤ m → m ≤ 9223372036854775807 → l = Lib.itoa m → n = m ∧ b = true
theorem WholeIs.no {l : List UInt8} (h : ∀ m : Int, -9223372036854775808 ≤ m → m ≤ 9223372036854775807 → ¬ l = Lib.itoa m) : WholeIs l 0 false :=
  ⟨by omega, by omega, fun h => (by cases h), fun m a b e => absurd e (h m a b)⟩
def wr (x : Int) : Int := wrap64 x
theorem wr_in (x : Int) : -9223372036854775808 ≤ wr x ∧ wr x ≤ 9223372036854775807 := by unfold wr wrap64; omega
theorem wr_id {x : Int} (h0 : -9223372036854775808 ≤ x) (h1 : x ≤ 9223372036854775807) : wr x = x := by unfold wr wrap64; omega
theorem wr_step (a d : Int) : wr (wr (wr a * 10) - d) = wr (a * 10 - d) := by unfold wr wrap64; omega
theorem dig_of {c : UInt8} (h : digB (c.toNat : Int) = true) : Dig c := by
  unfold digB at h; unfold Dig
  have := of_decide_eq_true h
  omega
theorem dig_not {c : UInt8} (h : digB (c.toNat : Int) = false) : ¬ Dig c := by
  intro hd
  unfold digB at h; unfold Dig at hd
  have := of_decide_eq_false h
  omega
theorem wr_next (a : Nat) (c : UInt8) (hc : Dig c) : wr (wr (wr (-(a : Int)) * 10) - ((c.toNat : Int) - 48) % 256) = wr (-((a * 10 + (c.toNat - 48) : Nat) : Int)) := by
  unfold Dig at hc
  rw [wr_step]
  congr 1
  omega

/-- The sign's place: 1 where the text opens with a minus. -/
def sgn (l : List UInt8) : Nat := if l.head? = some 45 then 1 else 0
theorem itoa_sgn (m : Int) : (m < 0 ∧ sgn (Lib.itoa m) = 1 ∧ (Lib.itoa m).drop 1 = Lib.decDigits m.natAbs) ∨ (0 ≤ m ∧ sgn (Lib.itoa m) = 0 ∧ Lib.itoa m = Lib.decDigits m.toNat) := by
  rcases itoa_head m with ⟨h, e⟩ | ⟨h, e⟩
  · exact .inl ⟨h, by rw [e]; rfl, by rw [e]; rfl⟩
  · refine .inr ⟨h, ?_, e⟩
    rw [e]
    have hd := dec_dig m.toNat
    have hp := dec_pos m.toNat
    generalize Lib.decDigits m.toNat = l at hd hp
    cases l with
    | nil => simp at hp
    | cons c r =>
      have hc := hd c (by simp)
      unfold Dig at hc
      unfold sgn
      rw [if_neg]
      intro h
      simp at h
      rw [h] at hc
      exact absurd hc.1 (by decide)
theorem itoa_digs {l : List UInt8} {m : Int} (h : l = Lib.itoa m) : ∀ c ∈ l.drop (sgn l), Dig c := by
  rcases itoa_sgn m with ⟨_, e, e2⟩ | ⟨_, e, e2⟩
  · rw [h, e, e2]; exact dec_dig _
  · rw [h, e, List.drop_zero, e2]; exact dec_dig _
/-- What the number is that the digits tell. -/
def whole (l : List UInt8) : Int := if sgn l = 1 then wr (-(dval 0 (l.drop (sgn l)) : Int)) else wr (-(wr (-(dval 0 (l.drop (sgn l)) : Int))))
theorem whole_itoa {l : List UInt8} {m : Int} (h0 : -9223372036854775808 ≤ m) (h1 : m ≤ 9223372036854775807) (h : l = Lib.itoa m) : whole l = m := by
  unfold whole
  rcases itoa_sgn m with ⟨hm, e, e2⟩ | ⟨hm, e, e2⟩
  · rw [h, if_pos e, e, e2, dec_val, wr_id (by omega) (by omega)]
    omega
  · rw [h, if_neg (by omega), e, List.drop_zero, e2, dec_val, wr_id (x := -((m.toNat : Nat) : Int)) (by omega) (by omega), wr_id (by omega) (by omega)]
    omega
theorem whole_is {l : List UInt8} (b : Bool) (hb : b = true ↔ Lib.itoa (whole l) = l) : WholeIs l (whole l) b := by
  have hr : -9223372036854775808 ≤ whole l ∧ whole l ≤ 9223372036854775807 := by
    unfold whole; split
    · exact wr_in _
    · exact wr_in _
  refine ⟨hr.1, hr.2, fun h => (hb.1 h).symm, fun m a c e => ?_⟩
  have := whole_itoa a c e
  exact ⟨this, hb.2 (by rw [this]; exact e.symm)⟩
def WhoRet (l : List UInt8) (e : Ending) : Prop := ∃ (n : Int) (b : Bool), e = .returned (.tuple #[.int .i64 n, .bool b]) ∧ WholeIs l n b
theorem take_drop1 (l : List UInt8) (k d : Nat) (hk : k < l.length) (hd : d ≤ k) : (l.take (k + 1)).drop d = (l.take k).drop d ++ [l[k]] := by
  rw [List.take_add_one, List.getElem?_eq_getElem hk, Option.toList_some, List.drop_append_of_le_length (by rw [List.length_take]; omega)]

set_option maxHeartbeats 2000000 in
theorem l1Whole_any (s : ByteArray) (w : World) (hs : s.size ≤ 1048576) :
    Calls Tryz.prog 104 #[.string s] w fun e w' => WhoRet s.data.toList e ∧ Below w.heap.size w w' := by
  have zs := sz_list s
  have qN := hide (fun (n : Int) (h : -9223372036854775808 ≤ n ∧ n ≤ 9223372036854775807) w => l1Num_any n w h.1 h.2)
  by_cases hz : s.size < 1 ∨ 20 < s.size
  · have hno := hide (WholeIs.no (l := s.data.toList) (fun m a b e => by
      have := itoa_len20 m a b
      rw [← e] at this
      omega))
    rcases hz with hz | hz
    · go_enter Tryz.func104, Tryz.ntmps104
      go_wp2_with fail
      refine bodyPost_ret (v := .tuple #[.int .i64 0, .bool false]) (by simp [results, Tryz.results104, go_sem]) rfl ⟨⟨_, _, rfl, unhide hno⟩, Below.refl _ _⟩
    · go_enter Tryz.func104, Tryz.ntmps104
      go_wp2_with fail
      refine bodyPost_ret (v := .tuple #[.int .i64 0, .bool false]) (by simp [results, Tryz.results104, go_sem]) rfl ⟨⟨_, _, rfl, unhide hno⟩, Below.refl _ _⟩
  · have hz1 : ¬ s.size < 1 := fun h => hz (.inl h)
    have hz2 : ¬ 20 < s.size := fun h => hz (.inr h)
    have hz3 : 0 < s.size := by omega
    clear hz
    obtain ⟨f, hf⟩ : ∃ f, s[0] = f := ⟨_, rfl⟩
    have hf2 : s.data.toList[0]'(by omega) = f := by rw [← hf]; rfl
    have hh : s.data.toList.head? = some f := by rw [List.head?_eq_getElem?, List.getElem?_eq_getElem (by omega), hf2]
    obtain ⟨d, hd⟩ : ∃ d, sgn s.data.toList = d := ⟨_, rfl⟩
    have hds : (d = 0 ∧ ((f.toNat : Int) == 45) = false) ∨ (d = 1 ∧ ((f.toNat : Int) == 45) = true) := by
      rw [← hd]
      unfold sgn
      rw [hh]
      by_cases e : f = 45
      · right; subst e; simp
      · left
        rw [if_neg (by simpa using e)]
        refine ⟨rfl, ?_⟩
        rw [beq_eq_false_iff_ne]
        intro h
        exact e (UInt8.toNat_inj.1 (by show f.toNat = 45; omega))
    have HD := hide hd
    clear hh hf2 hd
    go_enter Tryz.func104, Tryz.ntmps104
    go_wp2_with fail
    go_loopw [4, 5] (fun n i w' => ∃ (k : Nat) (N : Int), k ≤ s.size ∧ i = .int .i64 k ∧ n = .int .i64 N ∧ (-9223372036854775808 ≤ N ∧ N ≤ 9223372036854775807) ∧ Hid (N = wr (-(dval 0 ((s.data.toList.take k).drop d) : Int))) ∧ Hid (∀ c ∈ (s.data.toList.take k).drop d, Dig c) ∧ Hid (Below w.heap.size w w')) (fun _ i _ => s.size - (intOf i).toNat)
    case atStart => exact ⟨0, 0, Nat.zero_le _, rfl, rfl, by omega, hide (by simp [dval]; exact (wr_id (by omega) (by omega)).symm), hide (by simp), hide (Below.refl _ _)⟩
    case round =>
      obtain ⟨k, N, hk, rfl, rfl, hN, hv, hg, hb⟩ := hrel
      by_cases hlt : k < s.size
      · have hk' : k < s.data.toList.length := by omega
        obtain ⟨c, hc⟩ : ∃ c, s[k] = c := ⟨_, rfl⟩
        have hc2 := hide (show s.data.toList[k] = c by rw [← hc]; rfl)
        by_cases hs1 : k = 0 ∧ d = 1
        · obtain ⟨rfl, rfl⟩ := hs1
          have h45 : ((f.toNat : Int) == 45) = true := by
            rcases hds with ⟨h, _⟩ | ⟨_, h⟩
            · omega
            · exact h
          go_wp2_with fail
          exact ⟨⟨1, N, by omega, rfl, rfl, hN, hide (by rw [unhide hv]; simp), hide (by simp), hb⟩, by simp [intOf]; omega⟩
        · have hdk : d ≤ k := by omega
          have hsplit : (((k : Int) == 0) = true ∧ ((f.toNat : Int) == 45) = false) ∨ ((k : Int) == 0) = false := by
            by_cases h : k = 0
            · left
              rcases hds with ⟨h1, h2⟩ | ⟨h1, h2⟩
              · exact ⟨by rw [h]; rfl, h2⟩
              · omega
            · right; rw [beq_eq_false_iff_ne]; omega
          cases hdg : digB (c.toNat : Int)
          · have hno := hide (WholeIs.no (l := s.data.toList) (fun m a b e => by
              have h2 := itoa_digs e s.data.toList[k] (by
                rw [unhide HD, List.mem_iff_getElem]
                exact ⟨k - d, by rw [List.length_drop]; omega, by rw [List.getElem_drop]; congr 1; omega⟩)
              rw [unhide hc2] at h2
              exact dig_not hdg h2))
            rcases hsplit with ⟨g1, g2⟩ | g1
            all_goals (
              go_wp2_with (go_at_call 58; refine (l1Digit_any _ _).mono ?_; rintro e w' ⟨rfl, rfl⟩; rw [hdg])
              refine bodyPost_ret (v := .tuple #[.int .i64 0, .bool false]) (by simp [results, Tryz.results104, go_sem]) rfl ⟨⟨_, _, rfl, unhide hno⟩, unhide hb⟩)
          · have st := hide (show wrap64 (wrap64 (N * 10) - ((c.toNat : Int) - 48) % 256) = Go.Proofs.YticidjceljjfnaaGreatDoor.wr (-(dval 0 ((s.data.toList.take (k + 1)).drop d) : Int)) by
              rw [take_drop1 _ _ _ hk' hdk, dval_app, unhide hc2, ← wr_next _ _ (dig_of hdg), ← unhide hv]; rfl)
            have sg2 := hide (show ∀ x ∈ (s.data.toList.take (k + 1)).drop d, Dig x by
              rw [take_drop1 _ _ _ hk' hdk, unhide hc2]
              intro x hx
              rw [List.mem_append, List.mem_singleton] at hx
              rcases hx with hx | rfl
              · exact unhide hg x hx
              · exact dig_of hdg)
            have hr := wr_in (wrap64 (N * 10) - ((c.toNat : Int) - 48) % 256)
            rcases hsplit with ⟨g1, g2⟩ | g1
            all_goals (
              go_wp2_with (go_at_call 58; refine (l1Digit_any _ _).mono ?_; rintro e w' ⟨rfl, rfl⟩; rw [hdg])
              exact ⟨⟨k + 1, _, by omega, by simp, rfl, hr, st, sg2, hb⟩, by simp [intOf]; omega⟩)
      · have ek : k = s.size := by omega
        have et : s.data.toList.take k = s.data.toList := List.take_of_length_le (by omega)
        rw [et] at hv
        have hw : (d = 0 ∧ whole s.data.toList = wrap64 (-N)) ∨ (d = 1 ∧ whole s.data.toList = N) := by
          unfold whole
          rw [unhide HD, ← unhide hv]
          rcases hds with ⟨h, _⟩ | ⟨h, _⟩
          · left; rw [if_neg (by omega)]; exact ⟨h, rfl⟩
          · right; rw [if_pos h]; exact ⟨h, rfl⟩
        have HW := hide (fun b h => whole_is (l := s.data.toList) b h)
        have hwr := wr_in (-N)
        generalize whole s.data.toList = W0 at hw HW
        rcases hds with ⟨h, g2⟩ | ⟨h, g2⟩
        · have e0 : W0 = wrap64 (-N) := by
            rcases hw with ⟨_, e⟩ | ⟨e, _⟩
            · exact e
            · omega
          subst e0
          go_wp2_with fail
          refine (unhide qN (wrap64 (-N)) hwr _).mono ?_
          rintro e w1 ⟨rfl, hb1⟩
          have B1 := hide (bTr (unhide hb) hb1)
          have HX := hide (show (⟨(Lib.itoa (wrap64 (-N))).toArray⟩ : ByteArray) = s ↔ Lib.itoa (wrap64 (-N)) = s.data.toList from ⟨fun h => by rw [← h], fun h => by rw [h, mk_list]⟩)
          generalize (⟨(Lib.itoa (wrap64 (-N))).toArray⟩ : ByteArray) = X at HX ⊢
          clear hb1 hb hv hw hg HD
          by_cases hx : X = s
          · go_wp2_with fail
            refine bodyPost_ret (v := .tuple #[.int .i64 (wrap64 (-N)), .bool true]) (by simp [results, Tryz.results104, go_sem]) rfl ⟨⟨_, _, rfl, unhide HW true ⟨fun _ => (unhide HX).1 hx, fun _ => rfl⟩⟩, unhide B1⟩
          · have hx2 := str_neq hx
            go_wp2_with fail
            refine bodyPost_ret (v := .tuple #[.int .i64 (wrap64 (-N)), .bool false]) (by simp [results, Tryz.results104, go_sem, hx2]) rfl ⟨⟨_, _, rfl, unhide HW false ⟨fun h => (by cases h), fun h => absurd ((unhide HX).2 h) hx⟩⟩, unhide B1⟩
        · have e0 : W0 = N := by
            rcases hw with ⟨e, _⟩ | ⟨_, e⟩
            · omega
            · exact e
          subst e0
          go_wp2_with fail
          refine (unhide qN _ hN _).mono ?_
          rintro e w1 ⟨rfl, hb1⟩
          have B1 := hide (bTr (unhide hb) hb1)
          have HX := hide (show (⟨(Lib.itoa (W0)).toArray⟩ : ByteArray) = s ↔ Lib.itoa (W0) = s.data.toList from ⟨fun h => by rw [← h], fun h => by rw [h, mk_list]⟩)
          generalize (⟨(Lib.itoa (W0)).toArray⟩ : ByteArray) = X at HX ⊢
          clear hb1 hb hv hw hg HD
          by_cases hx : X = s
          · go_wp2_with fail
            refine bodyPost_ret (v := .tuple #[.int .i64 (W0), .bool true]) (by simp [results, Tryz.results104, go_sem]) rfl ⟨⟨_, _, rfl, unhide HW true ⟨fun _ => (unhide HX).1 hx, fun _ => rfl⟩⟩, unhide B1⟩
          · have hx2 := str_neq hx
            go_wp2_with fail
            refine bodyPost_ret (v := .tuple #[.int .i64 (W0), .bool false]) (by simp [results, Tryz.results104, go_sem, hx2]) rfl ⟨⟨_, _, rfl, unhide HW false ⟨fun h => (by cases h), fun h => absurd ((unhide HX).2 h) hx⟩⟩, unhide B1⟩
end Go.Proofs.YticidjceljjfnaaGreatDoor
