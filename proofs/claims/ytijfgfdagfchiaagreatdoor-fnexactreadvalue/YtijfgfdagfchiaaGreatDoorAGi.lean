/- impl.guessAtom. -/
import Derived.Test.YtijfgfdagfchiaaGreatDoorAHed
namespace Go.Proofs.YtijfgfdagfchiaaGreatDoor
open Go.RowKit
set_option maxRecDepth 20000

theorem neq_list {s : ByteArray} {l : List UInt8} (h : ¬ s.data.toList = l) : (s.toList == l) = false := by
  rw [ByteArray.toList_eq]
  simpa using h
theorem eq_bytes {s : ByteArray} {l : List UInt8} (h : s.data.toList = l) : s = ⟨l.toArray⟩ := by
  rw [← mk_list s, h]
theorem gtx_len : ∀ l : List UInt8, (gtx l).length ≤ l.length
  | [] => Nat.le_refl _
  | [_] => Nat.zero_le _
  | c :: d :: t => by
    have h1 := gtx_len t
    have h2 := gtx_len (d :: t)
    simp only [gtx]
    split
    · simp; omega
    · simp only [List.length_cons] at h2 ⊢; omega
theorem sz_arr (l : List UInt8) : (⟨l.toArray⟩ : ByteArray).size = l.length := by show l.toArray.size = _; simp
theorem quo_toList (t : ByteArray) : (⟨(gtx ((quo t.data.toList).drop 1)).toArray⟩ : ByteArray) = t := by rw [gtx_quo, mk_list]

theorem ga_nil : GA [] 0 0 eB eB := ga_of (by omega) (by omega) (Nat.zero_le _) (Nat.zero_le _) (fun c r e => by cases e)
theorem ga_tru : GA [116, 114, 117, 101] 1 1 eB eB := ga_of (by omega) (by omega) (Nat.zero_le _) (Nat.zero_le _) (fun c r e k n t y _ _ h => by
  injection e with e1 e2
  cases h with
  | tru a b p q _ => exact ⟨a.symm, b.symm, p.symm, q.symm⟩
  | fal _ _ _ _ l => rw [← e1] at l; injection l with l; exact absurd l (by decide)
  | txt _ _ _ l => rw [← e1] at l; exact absurd l (by decide)
  | tim _ _ _ l => rw [← e1] at l; exact absurd l (by decide)
  | ref _ _ _ _ l =>
    have : (58 : UInt8) ∈ c :: r := by rw [l]; simp
    rw [← e1, ← e2] at this
    exact absurd this (by decide)
  | adr _ _ _ l => exact absurd e1.symm (nc_not l).2.2.2.2.2.1
  | dec _ _ _ _ _ l => exact absurd e1.symm (nc_not l).2.2.2.2.2.1
  | num _ _ _ l => exact absurd e1.symm (nc_not l).2.2.2.2.2.1)
theorem ga_fal : GA [102, 97, 108, 115, 101] 1 0 eB eB := ga_of (by omega) (by omega) (Nat.zero_le _) (Nat.zero_le _) (fun c r e k n t y _ _ h => by
  injection e with e1 e2
  cases h with
  | fal a b p q _ => exact ⟨a.symm, b.symm, p.symm, q.symm⟩
  | tru _ _ _ _ l => rw [← e1] at l; injection l with l; exact absurd l (by decide)
  | txt _ _ _ l => rw [← e1] at l; exact absurd l (by decide)
  | tim _ _ _ l => rw [← e1] at l; exact absurd l (by decide)
  | ref _ _ _ _ l =>
    have : (58 : UInt8) ∈ c :: r := by rw [l]; simp
    rw [← e1, ← e2] at this
    exact absurd this (by decide)
  | adr _ _ _ l => exact absurd e1.symm (nc_not l).2.2.2.2.2.2.1
  | dec _ _ _ _ _ l => exact absurd e1.symm (nc_not l).2.2.2.2.2.2.1
  | num _ _ _ l => exact absurd e1.symm (nc_not l).2.2.2.2.2.2.1)
theorem ga_txt {r : List UInt8} {T : ByteArray} (zT : T.size ≤ 1100000) (hT : ∀ t, 34 :: r = quo t → T.data.toList = t) : GA (34 :: r) 3 0 T eB :=
  ga_of (by omega) (by omega) zT (Nat.zero_le _) (fun c r' e k n t y _ _ h => by
    injection e with e1 e2
    subst e2
    cases h with
    | tru _ _ _ _ l => rw [← e1] at l; injection l with l; exact absurd l (by decide)
    | fal _ _ _ _ l => rw [← e1] at l; injection l with l; exact absurd l (by decide)
    | txt a b q _ l =>
      rw [← e1] at l
      refine ⟨a.symm, b.symm, ?_, q.symm⟩
      have := hT _ l
      rw [← mk_list T, this, mk_list]
    | tim _ _ _ l => rw [← e1] at l; exact absurd l (by decide)
    | ref _ _ l => rw [← e1] at l; exact absurd l (by decide)
    | adr _ _ _ l => exact absurd e1.symm (nc_not l).2.2.2.1
    | dec _ _ _ _ _ l => exact absurd e1.symm (nc_not l).2.2.2.1
    | num _ _ _ l => exact absurd e1.symm (nc_not l).2.2.2.1)
theorem ga_tim {r : List UInt8} {N : Int} (h0 : -9223372036854775808 ≤ N) (h1 : N ≤ 9223372036854775807) (hN : ∀ n : Int, -9223372036854775808 ≤ n → n ≤ 9223372036854775807 → r = Lib.itoa n → N = n) : GA (64 :: r) 7 N eB eB :=
  ga_of h0 h1 (Nat.zero_le _) (Nat.zero_le _) (fun c r' e k n t y g0 g1 h => by
    injection e with e1 e2
    subst e1 e2
    cases h with
    | tru _ _ _ _ l => injection l with l; exact absurd l (by decide)
    | fal _ _ _ _ l => injection l with l; exact absurd l (by decide)
    | txt _ _ _ l => exact absurd l (by decide)
    | tim a p q _ l => exact ⟨a.symm, hN n g0 g1 l, p.symm, q.symm⟩
    | ref _ _ l => exact absurd l (by decide)
    | adr _ _ _ l => exact absurd rfl (nc_not l).2.2.2.2.1
    | dec _ _ _ _ _ l => exact absurd rfl (nc_not l).2.2.2.2.1
    | num _ _ _ l => exact absurd rfl (nc_not l).2.2.2.2.1)
/-- Neither true nor false. -/
def NTF (l : List UInt8) : Prop := ¬ l = [116, 114, 117, 101] ∧ ¬ l = [102, 97, 108, 115, 101]
theorem ga_ref {c : UInt8} {r : List UInt8} {T Y : ByteArray} (zT : T.size ≤ 1100000) (zY : Y.size ≤ 1100000) (hn : NTF (c :: r)) (h34 : ¬ c = 34) (h64 : ¬ c = 64) (hx : NC c → (58 : UInt8) ∈ c :: r)
    (hT : ∀ y t : List UInt8, (58 : UInt8) ∉ y → c :: r = y ++ 58 :: 58 :: quo t → Y.data.toList = y ∧ T.data.toList = t) : GA (c :: r) 4 0 T Y :=
  ga_of (by omega) (by omega) zT zY (fun c' r' e k n t y _ _ h => by
    injection e with e1 e2
    subst e1 e2
    cases h with
    | tru _ _ _ _ l => exact absurd l hn.1
    | fal _ _ _ _ l => exact absurd l hn.2
    | txt _ _ _ l => exact absurd l h34
    | tim _ _ _ l => exact absurd l h64
    | ref a b _ h58 l =>
      obtain ⟨p, q⟩ := hT _ _ h58 l
      exact ⟨a.symm, b.symm, by rw [← mk_list T, q, mk_list], by rw [← mk_list Y, p, mk_list]⟩
    | adr _ _ _ l _ _ _ _ _ _ l2 => exact absurd (hx l) l2
    | dec _ _ _ _ _ l _ _ _ _ _ _ l2 => exact absurd (hx l) l2
    | num _ _ _ l l2 =>
      have := hx l
      rw [l2] at this
      exact absurd rfl (nc_not (itoa_nc _ _ this)).2.2.1)
theorem ga_adr {c : UInt8} {r : List UInt8} {N : Int} (h0 : -9223372036854775808 ≤ N) (h1 : N ≤ 9223372036854775807) (hn : NTF (c :: r)) (h34 : ¬ c = 34) (h64 : ¬ c = 64)
    (hr : namB (c.toNat : Int) = true → ∀ y t : List UInt8, ¬ c :: r = y ++ 58 :: 58 :: quo t) (h47 : (47 : UInt8) ∈ c :: r)
    (hN : ∀ f b : Int, 0 ≤ f → f < 4294967296 → 0 ≤ b → b ≤ 32 → c :: r = blkL f b → N = f * 64 + b) : GA (c :: r) 6 N eB eB :=
  ga_of h0 h1 (Nat.zero_le _) (Nat.zero_le _) (fun c' r' e k n t y _ _ h => by
    injection e with e1 e2
    subst e1 e2
    cases h with
    | tru _ _ _ _ l => exact absurd l hn.1
    | fal _ _ _ _ l => exact absurd l hn.2
    | txt _ _ _ l => exact absurd l h34
    | tim _ _ _ l => exact absurd l h64
    | ref _ _ a _ l => exact absurd l (hr a _ _)
    | adr a p q _ b1 b2 b3 b4 l => exact ⟨a.symm, by rw [hN _ _ b1 b2 b3 b4 l]; omega, p.symm, q.symm⟩
    | dec _ _ _ _ _ _ _ _ _ _ _ l => exact absurd h47 l
    | num _ _ _ _ _ l => exact absurd h47 l)
theorem ga_dec {c : UInt8} {r : List UInt8} {N : Int} (h0 : -9223372036854775808 ≤ N) (h1 : N ≤ 9223372036854775807) (hn : NTF (c :: r)) (h34 : ¬ c = 34) (h64 : ¬ c = 64)
    (hr : namB (c.toNat : Int) = true → ∀ y t : List UInt8, ¬ c :: r = y ++ 58 :: 58 :: quo t) (h47 : (47 : UInt8) ∉ c :: r) (h46 : (46 : UInt8) ∈ c :: r)
    (hN : ∀ (A B : List UInt8) (n : Int), c :: r = A ++ 46 :: B → c :: r = decL n → (∀ x ∈ A, NC x) → (∀ x ∈ B, Dig x) → Lib.atoiAll (A ++ B) = .ok n → N = n) : GA (c :: r) 5 N eB eB :=
  ga_of h0 h1 (Nat.zero_le _) (Nat.zero_le _) (fun c' r' e k n t y _ _ h => by
    injection e with e1 e2
    subst e1 e2
    cases h with
    | tru _ _ _ _ l => exact absurd l hn.1
    | fal _ _ _ _ l => exact absurd l hn.2
    | txt _ _ _ l => exact absurd l h34
    | tim _ _ _ l => exact absurd l h64
    | ref _ _ a _ l => exact absurd l (hr a _ _)
    | adr _ _ _ _ _ _ _ _ _ l => exact absurd l h47
    | dec A B a p q _ l0 l l1 l2 l3 => exact ⟨a.symm, hN A B n l l0 l1 l2 l3, p.symm, q.symm⟩
    | num _ _ _ _ _ _ l => exact absurd h46 l)
theorem ga_num {c : UInt8} {r : List UInt8} {N : Int} (h0 : -9223372036854775808 ≤ N) (h1 : N ≤ 9223372036854775807) (hn : NTF (c :: r)) (h34 : ¬ c = 34) (h64 : ¬ c = 64)
    (hr : namB (c.toNat : Int) = true → ∀ y t : List UInt8, ¬ c :: r = y ++ 58 :: 58 :: quo t) (h47 : (47 : UInt8) ∉ c :: r) (h46 : (46 : UInt8) ∉ c :: r)
    (hN : ∀ n : Int, -9223372036854775808 ≤ n → n ≤ 9223372036854775807 → c :: r = Lib.itoa n → N = n) : GA (c :: r) 2 N eB eB :=
  ga_of h0 h1 (Nat.zero_le _) (Nat.zero_le _) (fun c' r' e k n t y g0 g1 h => by
    injection e with e1 e2
    subst e1 e2
    cases h with
    | tru _ _ _ _ l => exact absurd l hn.1
    | fal _ _ _ _ l => exact absurd l hn.2
    | txt _ _ _ l => exact absurd l h34
    | tim _ _ _ l => exact absurd l h64
    | ref _ _ a _ l => exact absurd l (hr a _ _)
    | adr _ _ _ _ _ _ _ _ _ l => exact absurd l h47
    | dec A B _ _ _ _ _ l => exact absurd (by rw [l]; simp) h46
    | num a p q _ l => exact ⟨a.symm, hN n g0 g1 l, p.symm, q.symm⟩)
end Go.Proofs.YtijfgfdagfchiaaGreatDoor
