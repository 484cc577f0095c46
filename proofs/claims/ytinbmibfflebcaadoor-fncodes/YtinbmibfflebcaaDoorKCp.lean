/- Codes: pure. -/
import Derived.Test.YtinbmibfflebcaaDoorDSgn
import Derived.Lib.Repeat
import Derived.Lib.ItoaLen
namespace Go.Proofs.YtinbmibfflebcaaDoor.D
set_option maxRecDepth 20000

/-- The last i digits of n. -/
def pad (n : Nat) : Nat → List UInt8
  | 0 => []
  | i + 1 => UInt8.ofNat (48 + n / 10 ^ i % 10) :: pad n i
theorem pad_len (n i : Nat) : (pad n i).length = i := by
  induction i with
  | zero => rfl
  | succ i ih => simp [pad, ih]
theorem pad_back (i : Nat) : ∀ n, pad n (i + 1) = pad (n / 10) i ++ [UInt8.ofNat (48 + n % 10)] := by
  induction i with
  | zero => intro n; simp [pad]
  | succ i ih =>
    intro n
    rw [show pad n (i + 1 + 1) = UInt8.ofNat (48 + n / 10 ^ (i + 1) % 10) :: pad n (i + 1) from rfl, ih n]
    rw [show pad (n / 10) (i + 1) = UInt8.ofNat (48 + n / 10 / 10 ^ i % 10) :: pad (n / 10) i from rfl]
    rw [Nat.div_div_eq_div_mul, Nat.pow_succ, Nat.mul_comm]
    rfl
theorem pad_zero (i : Nat) : pad 0 i = List.replicate i 48 := by
  induction i with
  | zero => rfl
  | succ i ih => simp [pad, ih, List.replicate_succ]
/-- What is left of a text behind zeros. -/
theorem pad_last (d : Nat) : ∀ (n k : Nat), d ≤ k → (List.replicate k 48 ++ Lib.decDigits n).drop ((List.replicate k (48 : UInt8) ++ Lib.decDigits n).length - d) = pad n d := by
  induction d with
  | zero => intro n k _; simp [pad]
  | succ d ih =>
    intro n k hk
    rw [pad_back]
    by_cases h : n < 10
    · rw [Lib.decDigits, dif_pos h, show n / 10 = 0 by omega, Nat.mod_eq_of_lt h, pad_zero]
      rw [List.drop_append_of_le_length (by simp), List.drop_replicate]
      congr 2
      simp; omega
    · rw [Lib.decDigits, dif_neg h, ← List.append_assoc]
      have := ih (n / 10) k (by omega)
      rw [← this]
      rw [List.drop_append_of_le_length (by simp; omega)]
      congr 2
      simp; omega
theorem byte4_mod (c i : Nat) (h : i < 4) : byte4 (c % 4294967296) i = byte4 c i := by
  unfold byte4
  have : i = 0 ∨ i = 1 ∨ i = 2 ∨ i = 3 := by omega
  rcases this with rfl | rfl | rfl | rfl <;> (congr 1; omega)
theorem bytes4_mod (c : Nat) : bytes4 (c % 4294967296) = bytes4 c := by
  unfold bytes4; rw [byte4_mod c 0 (by decide), byte4_mod c 1 (by decide), byte4_mod c 2 (by decide), byte4_mod c 3 (by decide)]
/-- The number that a code is told of. -/
def codeN (s : List UInt8) (c : Nat) : Nat := num (mac s (bytes4 c ++ bytes4 (c / 4294967296)))
def CodeOk (s : List UInt8) (c d : Int) : Prop := (1 ≤ s.length ∧ s.length ≤ 64) ∧ (0 ≤ c ∧ c ≤ 1000000000000) ∧ 4 ≤ d ∧ d ≤ 8
instance (s : List UInt8) (c d : Int) : Decidable (CodeOk s c d) := by unfold CodeOk; exact inferInstance
def codeD (s : List UInt8) (c d : Int) : List UInt8 := if CodeOk s c d then pad (codeN s c.toNat) d.toNat else []
theorem codeD_no {s : List UInt8} {c d : Int} (h : ¬ CodeOk s c d) : codeD s c d = [] := if_neg h
theorem codeD_yes {s : List UInt8} {c d : Nat} (h : CodeOk s c d) : codeD s c d = pad (codeN s c) d := by
  unfold codeD; rw [if_pos h, Int.toNat_natCast, Int.toNat_natCast]
theorem rep_one (c : Nat) : Lib.repeatL [48] c = List.replicate c 48 := by
  induction c with
  | zero => rfl
  | succ c ih => show [48] ++ Lib.repeatL [48] c = _; rw [ih]; rfl
end Go.Proofs.YtinbmibfflebcaaDoor.D
