/- What a secret signs is verified by its public number, with one Z alone. -/
import Derived.Test.YtlgloffdinnpfaaDoorDVrfB
namespace Go.Proofs.YtlgloffdinnpfaaDoor.D

theorem pw_pw (a k e m : Nat) : pw (pw a k m) e m = a ^ (k * e) % m := by
  unfold pw; rw [← Nat.pow_mod, ← Nat.pow_mul]
theorem pub_one {E : Nat} (hE : OrdIs E) (k : Nat) : pw (pw 4 k 2147483579) E 2147483579 = 1 := by
  rw [pw_pw, Nat.mul_comm, Nat.pow_mul, Nat.pow_mod, base_ord hE, Nat.one_pow]
theorem pub_range (k : Nat) (h1 : 1 ≤ k) (h2 : k < 1073741789) : 2 ≤ pw 4 k 2147483579 ∧ pw 4 k 2147483579 < 2147483579 := by
  have hl := pw_lt 4 k 2147483579 (by decide)
  have h0 : pw 4 k 2147483579 ≠ 0 := base_pos k
  have hn1 : pw 4 k 2147483579 ≠ 1 := by
    intro e
    have : 4 ^ k % 2147483579 = 4 ^ 0 % 2147483579 := by rw [Nat.pow_zero]; exact e
    have := base_inj this
    omega
  omega
theorem pub_is (k : Nat) (h1 : 1 ≤ k) (h2 : k < 1073741789) : PubIs ((pw 4 k 2147483579 : Nat) : Int) true := by
  have hr := pub_range k h1 h2
  have ho := pub_one (E := 1073741789) rfl k
  refine ⟨?_⟩
  rw [Int.toNat_natCast, decide_eq_true (show (2 : Int) ≤ ((pw 4 k 2147483579 : Nat) : Int) ∧ ((pw 4 k 2147483579 : Nat) : Int) < 2147483579 by omega), decide_eq_true ho]
  rfl
theorem sig_pow (K k e : Nat) : pw 4 K 2147483579 * pw (pw 4 k 2147483579) e 2147483579 % 2147483579 = 4 ^ (K + k * e) % 2147483579 := by
  rw [pw_pw]
  unfold pw
  rw [← Nat.mul_mod, ← Nat.pow_add]
theorem sig_z (k : Nat) (d : List UInt8) : rN k d * pw (pw 4 k 2147483579) (eN (rN k d) d) 2147483579 % 2147483579 = pw 4 (zN k d) 2147483579 := by
  have h1 := sig_pow (kN k d) k (eN (rN k d) d)
  have h2 := base_mod (kN k d + k * eN (rN k d) d)
  have h3 : (kN k d + k * eN (rN k d) d) % 1073741789 = zN k d := by unfold zN; rw [Nat.mul_comm]
  rw [h3] at h2
  exact h1.trans h2
theorem ver_is (k : Nat) (d : List UInt8) (h1 : 1 ≤ k) (h2 : k < 1073741789) (hd : d.length ≤ 20000) (z : Nat) (hz : z < 1073741789) :
    VerIs ((pw 4 k 2147483579 : Nat) : Int) d ((rN k d : Nat) : Int) (z : Int) (decide (z = zN k d)) := by
  have hp := pub_is k h1 h2
  have hr := rN_lt k d
  have hr0 : rN k d ≠ 0 := base_pos (kN k d)
  have hzz := zN_lt k d
  have hs := sig_z k d
  refine ⟨?_⟩
  rw [decide_eq_true_iff, Int.toNat_natCast, Int.toNat_natCast, Int.toNat_natCast, hs]
  constructor
  · intro e
    exact ⟨hp, hd, by omega, by rw [e]⟩
  · intro h
    have := base_inj (a := z) (b := zN k d) h.2.2.2
    rw [Nat.mod_eq_of_lt hz, Nat.mod_eq_of_lt hzz] at this
    exact this
end Go.Proofs.YtlgloffdinnpfaaDoor.D
