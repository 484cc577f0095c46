/- Values of polynomials over the field. Pure. -/
import Derived.Test.YtoakdagncfaplaaDoorDSgn
namespace Go.Proofs.YtoakdagncfaplaaDoor.D

/-- From the last one on. -/
def hor (M x : Int) : List Int → Int
  | [] => 0
  | c :: l => (hor M x l * x + c) % M
def pev (x : Int) : List Int → Int
  | [] => 0
  | c :: l => c + x * pev x l
theorem hor_pev (M x : Int) : ∀ l, hor M x l % M = pev x l % M
  | [] => rfl
  | c :: l => by
    have ih := hor_pev M x l
    simp only [hor, pev]
    rw [Int.emod_emod_of_dvd _ (Int.dvd_refl M), Int.add_emod, Int.mul_emod, ih, ← Int.mul_emod, ← Int.add_emod, Int.mul_comm, Int.add_comm]
theorem hor_is (M x : Int) : ∀ l, hor M x l = pev x l % M
  | [] => (Int.zero_emod M).symm
  | c :: l => by
    have := hor_pev M x (c :: l)
    rw [← this]
    simp only [hor]
    rw [Int.emod_emod_of_dvd _ (Int.dvd_refl M)]
theorem hor_range (x : Int) (l : List Int) : 0 ≤ hor 1073741789 x l ∧ hor 1073741789 x l < 1073741789 := by
  rw [hor_is]
  exact ⟨Int.emod_nonneg _ (by decide), Int.emod_lt_of_pos _ (by decide)⟩
theorem pev_snoc (x c : Int) : ∀ l, pev x (l ++ [c]) = pev x l + x ^ l.length * c
  | [] => by simp [pev]
  | d :: l => by
    simp only [List.cons_append, pev, pev_snoc x c l, List.length_cons, Int.pow_succ]
    rw [Int.mul_add, Int.add_assoc, ← Int.mul_assoc, Int.mul_comm (x ^ l.length) x]
/-- One more term. -/
theorem pev_step (M x c : Int) (l : List Int) (p : Int) (hp : p = x ^ l.length % M) : (pev x l % M + c * p) % M = pev x (l ++ [c]) % M := by
  rw [pev_snoc, hp, Int.add_emod, Int.emod_emod_of_dvd _ (Int.dvd_refl M), Int.mul_emod, Int.emod_emod_of_dvd _ (Int.dvd_refl M), ← Int.mul_emod, ← Int.add_emod, Int.mul_comm c]
theorem pow_step (M x p : Int) (k : Nat) (hp : p = x ^ k % M) : p * x % M = x ^ (k + 1) % M := by
  rw [hp, Int.mul_emod, Int.emod_emod_of_dvd _ (Int.dvd_refl M), ← Int.mul_emod, Int.pow_succ]
/-- The j-th number that hides a secret. -/
def cj (l : List UInt8) (j : Nat) : Int := ((num (mac l [UInt8.ofNat j]) % 1073741789 : Nat) : Int)
theorem cj_range (l : List UInt8) (j : Nat) : 0 ≤ cj l j ∧ cj l j < 1073741789 := by
  unfold cj
  have := Nat.mod_lt (num (mac l [UInt8.ofNat j])) (show 0 < 1073741789 by decide)
  omega
/-- The secret, and k numbers. -/
def cof (s : Int) (l : List UInt8) (k : Nat) : List Int := s :: (List.range k).map fun i => cj l (i + 1)
theorem cof_snoc (s : Int) (l : List UInt8) (k : Nat) : cof s l (k + 1) = cof s l k ++ [cj l (k + 1)] := by
  simp [cof, List.range_succ]
theorem cof_len (s : Int) (l : List UInt8) (k : Nat) : (cof s l k).length = k + 1 := by simp [cof]
end Go.Proofs.YtoakdagncfaplaaDoor.D
