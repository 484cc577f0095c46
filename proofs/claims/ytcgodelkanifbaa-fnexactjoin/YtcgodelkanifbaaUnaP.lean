/- What is read back from an armour, as lists. -/
import Derived.Test.YtcgodelkanifbaaArmP
import Derived.Lib.Bytealg
namespace Go.Proofs.Ytcgodelkanifbaa

theorem pre_add (l : List UInt8) (b s t : Nat) : pre l b (s + t) = pre l b s * 2 ^ t + pre l (b + s) t := by
  induction t with
  | zero => simp [pre]
  | succ t ih =>
    rw [← Nat.add_assoc]
    simp only [pre]
    rw [ih, Nat.pow_succ, Nat.add_assoc b s t]
    generalize pre l b s = x
    generalize pre l (b + s) t = y
    generalize bit l (b + (s + t)) = z
    generalize 2 ^ t = p
    grind
theorem byte8 (l : List UInt8) (k : Nat) (h : k < l.length) : pre l (8 * k) 8 = (l[k]).toNat := by
  have e : ∀ t, t < 8 → bit l (8 * k + t) = (l[k]).toNat / 2 ^ (7 - t) % 2 := by
    intro t ht
    unfold bit
    rw [show (8 * k + t) / 8 = k by omega, show (8 * k + t) % 8 = t by omega, List.getD_eq_getElem?_getD, List.getElem?_eq_getElem h]
    rfl
  simp only [pre]
  rw [e 0 (by omega), e 1 (by omega), e 2 (by omega), e 3 (by omega), e 4 (by omega), e 5 (by omega), e 6 (by omega), e 7 (by omega)]
  have hu := (l[k]).toNat_lt
  generalize (l[k]).toNat = c at hu
  have key : ∀ c : Fin 256, 2 * (2 * (2 * (2 * (2 * (2 * (2 * (2 * 0 + c.1 / 2 ^ (7 - 0) % 2) + c.1 / 2 ^ (7 - 1) % 2) + c.1 / 2 ^ (7 - 2) % 2) + c.1 / 2 ^ (7 - 3) % 2) + c.1 / 2 ^ (7 - 4) % 2) + c.1 / 2 ^ (7 - 5) % 2) + c.1 / 2 ^ (7 - 6) % 2) + c.1 / 2 ^ (7 - 7) % 2 = c.1 := by decide +kernel
  exact key ⟨c, hu⟩
/-- One more letter: fewer than eight bits are held. -/
theorem una_few (d : List UInt8) (i : Nat) (b b' : Int) (hh : 5 * i % 8 < 3) (hb : b % 2 ^ (5 * i % 8) = (pre d (8 * (5 * i / 8)) (5 * i % 8) : Nat)) (hb' : b' % 4096 = (b * 32 + (five d (5 * i) : Nat)) % 4096) :
    b' % 2 ^ (5 * i % 8 + 5) = (pre d (8 * (5 * i / 8)) (5 * i % 8 + 5) : Nat) := by
  rw [pre_add, show 8 * (5 * i / 8) + 5 * i % 8 = 5 * i by omega]
  have hv := five_lt d (5 * i)
  unfold five at hv hb'
  have hX := pre_lt d (8 * (5 * i / 8)) (5 * i % 8)
  generalize pre d (5 * i) 5 = v at *
  generalize pre d (8 * (5 * i / 8)) (5 * i % 8) = X at *
  generalize 5 * i % 8 = h at *
  have hc : h = 0 ∨ h = 1 ∨ h = 2 := by omega
  rcases hc with rfl | rfl | rfl
  all_goals
    simp only [Nat.reduceAdd, Nat.reducePow, Int.reducePow] at *
    omega
/-- One more letter: a byte is whole. -/
theorem una_whole (d : List UInt8) (i : Nat) (b b' : Int) (hh : 3 ≤ 5 * i % 8) (hb : b % 2 ^ (5 * i % 8) = (pre d (8 * (5 * i / 8)) (5 * i % 8) : Nat)) (hb' : b' % 4096 = (b * 32 + (five d (5 * i) : Nat)) % 4096) :
    b' / 2 ^ (5 * i % 8 - 3) % 256 = (pre d (8 * (5 * i / 8)) 8 : Nat) ∧ b' % 2 ^ (5 * i % 8 - 3) = (pre d (8 * (5 * i / 8 + 1)) (5 * i % 8 - 3) : Nat) := by
  have h1 := pre_add d (8 * (5 * i / 8)) (5 * i % 8) 5
  rw [show 8 * (5 * i / 8) + 5 * i % 8 = 5 * i by omega] at h1
  have h2 := pre_add d (8 * (5 * i / 8)) 8 (5 * i % 8 - 3)
  rw [show 8 + (5 * i % 8 - 3) = 5 * i % 8 + 5 by omega, h1] at h2
  rw [show 8 * (5 * i / 8 + 1) = 8 * (5 * i / 8) + 8 by omega]
  have hv := five_lt d (5 * i)
  unfold five at hv hb'
  have hX := pre_lt d (8 * (5 * i / 8)) (5 * i % 8)
  have hY := pre_lt d (8 * (5 * i / 8)) 8
  have hZ := pre_lt d (8 * (5 * i / 8) + 8) (5 * i % 8 - 3)
  clear h1
  generalize pre d (5 * i) 5 = v at *
  generalize pre d (8 * (5 * i / 8)) (5 * i % 8) = X at *
  generalize pre d (8 * (5 * i / 8)) 8 = Y at *
  generalize pre d (8 * (5 * i / 8) + 8) (5 * i % 8 - 3) = Z at *
  have hl : 5 * i % 8 < 8 := Nat.mod_lt _ (by decide)
  generalize 5 * i % 8 = h at *
  have hc : h = 3 ∨ h = 4 ∨ h = 5 ∨ h = 6 ∨ h = 7 := by omega
  rcases hc with rfl | rfl | rfl | rfl | rfl
  all_goals
    simp only [Nat.reduceSub, Nat.reducePow, Int.reducePow] at *
    omega
theorem many_back (m : Nat) : 5 * many m / 8 = m := by unfold many; omega
theorem letOf_idx (n : Nat) (h : n < 32) : Lib.indexByte letL (letOf n) = n := by
  have key : ∀ n : Fin 32, Lib.indexByte letL (letOf n.1) = n.1 := by decide +kernel
  exact key ⟨n, h⟩
theorem idx_bound (l : List UInt8) (c : UInt8) : -1 ≤ Lib.indexByte l c ∧ Lib.indexByte l c < (l.length : Int) := by
  induction l with
  | nil => simp [Lib.indexByte]
  | cons x xs ih =>
    simp only [Lib.indexByte, List.length_cons]
    rcases ih with ⟨h1, h2⟩
    push_cast
    split
    · omega
    · split
      · omega
      · omega
theorem idx_let (c : UInt8) : -1 ≤ Lib.indexByte letL c ∧ Lib.indexByte letL c < 32 := idx_bound letL c
end Go.Proofs.Ytcgodelkanifbaa
