/- WCmpP, ported from seat 1a. -/
import Derived.WalkKit
import Derived.Laws.Strings
namespace Go.Proofs.YtdhpfhpegaekpaaDoor.V

def cmpN (a b : Int) : Int := if a < b then -1 else if b < a then 1 else 0
def cmpT : List UInt8 → List UInt8 → Int
  | [], [] => 0
  | [], _ :: _ => -1
  | _ :: _, [] => 1
  | a :: x, b :: y => if a = b then cmpT x y else cmpN a.toNat b.toNat

theorem cmpN_self (a : Int) : cmpN a a = 0 := by unfold cmpN; rw [if_neg (Int.lt_irrefl a), if_neg (Int.lt_irrefl a)]
theorem cmpN_cases (a b : Int) : cmpN a b = -1 ∨ cmpN a b = 0 ∨ cmpN a b = 1 := by
  unfold cmpN; split
  · exact .inl rfl
  · split
    · exact .inr (.inr rfl)
    · exact .inr (.inl rfl)
theorem cmpN_zero {a b : Int} (h : cmpN a b = 0) : a = b := by
  unfold cmpN at h
  split at h
  · simp at h
  · split at h
    · simp at h
    · omega
theorem cmpT_cases : ∀ a b : List UInt8, cmpT a b = -1 ∨ cmpT a b = 0 ∨ cmpT a b = 1
  | [], [] => by simp [cmpT]
  | [], _ :: _ => by simp [cmpT]
  | _ :: _, [] => by simp [cmpT]
  | a :: x, b :: y => by
    unfold cmpT
    split
    · exact cmpT_cases x y
    · exact cmpN_cases _ _
theorem cmpT_self : ∀ a : List UInt8, cmpT a a = 0
  | [] => rfl
  | a :: x => by unfold cmpT; rw [if_pos rfl]; exact cmpT_self x
theorem u8_eq {a b : UInt8} (h : (a.toNat : Int) = (b.toNat : Int)) : a = b := UInt8.toNat_inj.1 (by omega)
theorem cmpT_zero : ∀ {a b : List UInt8}, cmpT a b = 0 → a = b
  | [], [], _ => rfl
  | [], _ :: _, h => by simp [cmpT] at h
  | _ :: _, [], h => by simp [cmpT] at h
  | a :: x, b :: y, h => by
    unfold cmpT at h
    split at h
    · rename_i e; rw [e, cmpT_zero h]
    · rename_i e; exact absurd (u8_eq (cmpN_zero h)) e

/-- The order by '<' and '=='. -/
theorem cmpT_less : ∀ a b : List UInt8, cmpT a b = if Op.bytesLess a b then -1 else if a == b then 0 else 1
  | [], [] => by simp [cmpT, Op.bytesLess]
  | [], _ :: _ => by simp [cmpT, Op.bytesLess]
  | _ :: _, [] => by simp [cmpT, Op.bytesLess]
  | a :: x, b :: y => by
    unfold cmpT
    by_cases e : a = b
    · subst e
      rw [if_pos rfl, cmpT_less x y]
      simp [Op.bytesLess]
    · rw [if_neg e]
      unfold cmpN
      have hb : (a == b) = false := by simpa using e
      by_cases l : a < b
      · have l' : (a.toNat : Int) < (b.toNat : Int) := by have := UInt8.lt_iff_toNat_lt.1 l; omega
        rw [if_pos l']
        simp [Op.bytesLess, l]
      · have l' : ¬ (a.toNat : Int) < (b.toNat : Int) := by
          intro h; exact l (UInt8.lt_iff_toNat_lt.2 (by omega))
        have l2 : (b.toNat : Int) < (a.toNat : Int) := by
          have : ¬ (a.toNat : Int) = (b.toNat : Int) := fun h => e (u8_eq h)
          omega
        rw [if_neg l', if_pos l2]
        simp [Op.bytesLess, l, hb]

/-- What is the same ahead falls away. -/
theorem cmpT_drop_step (a b : List UInt8) (k : Nat) (ha : k < a.length) (hb : k < b.length) (e : a[k] = b[k]) : cmpT (a.drop k) (b.drop k) = cmpT (a.drop (k + 1)) (b.drop (k + 1)) := by
  rw [List.drop_eq_getElem_cons ha, List.drop_eq_getElem_cons hb]
  show (if a[k] = b[k] then _ else _) = _
  rw [if_pos e]
theorem cmpT_drop_differ (a b : List UInt8) (k : Nat) (ha : k < a.length) (hb : k < b.length) (e : ¬ a[k] = b[k]) : cmpT (a.drop k) (b.drop k) = cmpN a[k].toNat b[k].toNat := by
  rw [List.drop_eq_getElem_cons ha, List.drop_eq_getElem_cons hb]
  show (if a[k] = b[k] then _ else _) = _
  rw [if_neg e]
theorem cmpT_drop_end (a b : List UInt8) (k : Nat) (h : k = a.length ∧ k ≤ b.length ∨ k ≤ a.length ∧ k = b.length) : cmpT (a.drop k) (b.drop k) = cmpN a.length b.length := by
  rcases h with ⟨h1, h2⟩ | ⟨h1, h2⟩
  · rw [List.drop_of_length_le (by omega)]
    by_cases h : k < b.length
    · rw [List.drop_eq_getElem_cons h]; show -1 = cmpN _ _
      unfold cmpN; rw [if_pos (by omega)]
    · rw [List.drop_of_length_le (by omega)]; show 0 = cmpN _ _
      rw [show (a.length : Int) = b.length by omega, cmpN_self]
  · rw [List.drop_of_length_le (l := b) (by omega)]
    by_cases h : k < a.length
    · rw [List.drop_eq_getElem_cons h]; show 1 = cmpN _ _
      unfold cmpN; rw [if_neg (by omega), if_pos (by omega)]
    · rw [List.drop_of_length_le (by omega)]; show 0 = cmpN _ _
      rw [show (a.length : Int) = b.length by omega, cmpN_self]

/-- The order of atoms, good ones. -/
def orI (a b : Int) : Int := if a = 0 then b else a
def cmpA (x n : Int) (t y : ByteArray) (x' n' : Int) (t' y' : ByteArray) : Int :=
  orI (cmpN x x') (orI (cmpN n n') (orI (cmpT y.data.toList y'.data.toList) (cmpT t.data.toList t'.data.toList)))
end Go.Proofs.YtdhpfhpegaekpaaDoor.V
