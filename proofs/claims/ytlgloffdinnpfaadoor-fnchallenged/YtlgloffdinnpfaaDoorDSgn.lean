/- Numbers of digests; what ties R to the data; signatures. -/
import Derived.Test.YtlgloffdinnpfaaDoorDMac
namespace Go.Proofs.YtlgloffdinnpfaaDoor.D
set_option maxRecDepth 20000
open Go.RowKit

/-- The number of the first t bytes, the lowest first. -/
def numT (D : List UInt8) : Nat → Nat
  | 0 => 0
  | t + 1 => numT D t + (D.getD t 0).toNat * 2 ^ (8 * t)
def num (D : List UInt8) : Nat := numT D 4
theorem numT_lt (D : List UInt8) (t : Nat) : numT D t < 2 ^ (8 * t) := by
  induction t with
  | zero => simp [numT]
  | succ t ih =>
    have hu := (D.getD t 0).toNat_lt
    have e : 2 ^ (8 * (t + 1)) = 256 * 2 ^ (8 * t) := by rw [Nat.mul_add, Nat.pow_add, Nat.mul_comm]
    simp only [numT]
    rw [e]
    have := Nat.mul_le_mul_right (2 ^ (8 * t)) (show (D.getD t 0).toNat ≤ 255 by omega)
    omega
theorem num_lt (D : List UInt8) : num D < 4294967296 := numT_lt D 4
theorem numT_or (D : List UInt8) (t : Nat) (ht : t < 4) : bits .or .i64 ((numT D t : Nat) : Int) (((D.getD t 0).toNat : Int) * 2 ^ (8 * t)) = ((numT D (t + 1) : Nat) : Int) := by
  have h1 := numT_lt D t
  have h2 := numT_lt D (t + 1)
  have h4 : (2 : Nat) ^ (8 * (t + 1)) ≤ 2 ^ 32 := Nat.pow_le_pow_right (by decide) (by omega)
  have h5 : (2 : Nat) ^ (8 * t) ≤ 2 ^ 32 := Nat.pow_le_pow_right (by decide) (by omega)
  have e : numT D (t + 1) = numT D t + (D.getD t 0).toNat * 2 ^ (8 * t) := rfl
  have hc : (((D.getD t 0).toNat * 2 ^ (8 * t) : Nat) : Int) = ((D.getD t 0).toNat : Int) * 2 ^ (8 * t) := by simp
  have h63 : (2 : Nat) ^ 32 < 2 ^ 63 := by decide
  rw [← hc, (bits_nat .i64 63 (by decide) wraps_i64 _ _ (by omega) (by omega)).2, Nat.or_comm, Nat.mul_comm, ← Nat.two_pow_add_eq_or_of_lt h1]
  rw [e, Nat.mul_comm, Nat.add_comm]
theorem getD_at' (l : List UInt8) (i : Nat) (h : i < l.length) : l.getD i 0 = l[i] := by
  rw [List.getD_eq_getElem?_getD, List.getElem?_eq_getElem h]; rfl

set_option maxHeartbeats 1000000 in
theorem numberOf_any (b len cap : Nat) (D : List UInt8) (w : World) (hl : 4 ≤ len) (hc : len ≤ cap) (hcm : cap ≤ maxLen) (hs : SlB w w.heap.size (some ⟨b, 0, none⟩) len D) :
    Calls Tryd.prog 31 #[.slice (some ⟨b, 0, none⟩) len cap] w fun e w' => e = .returned (.int .i64 (num D)) ∧ w = w' := by
  unfold maxLen at hcm
  have HS := hide hs
  have hll := hide hs.1
  have h4c : 4 ≤ cap := by omega
  clear hs hc
  go_enter Tryd.func31, Tryd.ntmps31
  go_wp2_with fail
  clear hcm
  go_loop [3, 4, 5, 9] (fun n _ _ i => ∃ t : Nat, t ≤ 4 ∧ i = .int .i64 t ∧ n = .int .i64 (numT D t : Nat)) (fun _ _ _ i => 4 - (intOf i).toNat)
  case atStart => exact ⟨0, by omega, rfl, rfl⟩
  case round =>
    obtain ⟨t, ht, rfl, rfl⟩ := hrel
    by_cases hlt : t < 4
    · obtain ⟨b', off', e', _, _, hrow⟩ := (unhide HS).at (k := t) (by omega)
      simp only [Option.some.injEq, Addr.mk.injEq] at e'
      obtain ⟨rfl, rfl, _⟩ := e'
      have hkl : t < D.length := by rw [← unhide hll]; omega
      have c0 := hrow t hkl
      rw [Nat.zero_add] at c0
      have hor := numT_or D t hlt
      have hlow := numT_lt D t
      have hlow2 : (2 : Nat) ^ (8 * t) ≤ 2 ^ 24 := Nat.pow_le_pow_right (by decide) (by omega)
      rw [getD_at' _ _ hkl] at hor
      have hu := (D[t]).toNat_lt
      clear hrow
      generalize D[t] = c at c0 hor hu
      unfold byteV at c0
      have hor2 : Hid _ := hide hor
      clear hor
      have hmx : (0 : Int) ≤ (c.toNat : Int) * 2 ^ (8 * t) ∧ (c.toNat : Int) * 2 ^ (8 * t) < 4294967296 := by
        have hc : ((c.toNat * 2 ^ (8 * t) : Nat) : Int) = (c.toNat : Int) * 2 ^ (8 * t) := by simp
        have hx : c.toNat * 2 ^ (8 * t) ≤ 255 * 2 ^ 24 := Nat.mul_le_mul (by omega) hlow2
        rw [← hc]; omega
      clear hlow2 hlow
      go_wp2_with fail
      exact ⟨⟨t + 1, by omega, by go_num, by rw [unhide hor2]⟩, by simp [intOf]; omega⟩
    · obtain rfl : t = 4 := by omega
      go_wp2_with fail
      go_ret
      exact ⟨rfl, rfl⟩

/-- The number from byte t on, of four. -/
def numU (D : List UInt8) (t : Nat) : Nat := num D / 2 ^ (8 * t)
theorem num_eq (D : List UInt8) : num D = (D.getD 0 0).toNat + 256 * (D.getD 1 0).toNat + 65536 * (D.getD 2 0).toNat + 16777216 * (D.getD 3 0).toNat := by
  simp only [num, numT, Nat.reduceMul, Nat.reducePow]; omega
theorem numU_step (D : List UInt8) (t : Nat) (ht : t < 4) : numU D t = numU D (t + 1) * 256 + (D.getD t 0).toNat := by
  have h0 := (D.getD 0 0).toNat_lt
  have h1 := (D.getD 1 0).toNat_lt
  have h2 := (D.getD 2 0).toNat_lt
  have h3 := (D.getD 3 0).toNat_lt
  unfold numU
  rw [num_eq]
  have hc : t = 0 ∨ t = 1 ∨ t = 2 ∨ t = 3 := by omega
  rcases hc with rfl | rfl | rfl | rfl
  all_goals
    simp only [Nat.reduceMul, Nat.reduceAdd, Nat.reducePow]
    omega
theorem numU_lt (D : List UInt8) (t : Nat) : numU D t < 4294967296 := Nat.lt_of_le_of_lt (Nat.div_le_self _ _) (num_lt D)
set_option maxHeartbeats 1000000 in
theorem l2Number_any (b len cap : Nat) (D : List UInt8) (w : World) (hl : 4 ≤ len) (hl2 : len ≤ 1000) (hs : SlB w w.heap.size (some ⟨b, 0, none⟩) len D) :
    Calls Tryd.prog 38 #[.slice (some ⟨b, 0, none⟩) len cap] w fun e w' => e = .returned (.int .i64 (num D)) ∧ w = w' := by
  have HS := hide hs
  have hll := hide hs.1
  clear hs
  go_enter Tryd.func38, Tryd.ntmps38
  go_wp2_with fail
  go_loop [3, 4] (fun n i => ∃ (t q : Nat), t ≤ 4 ∧ i = .int .i64 ((t : Int) - 1) ∧ n = .int .i64 q ∧ q < 4294967296 ∧ Hid (q = numU D t)) (fun _ i => (intOf i + 1).toNat)
  case atStart => exact ⟨4, 0, by omega, rfl, rfl, by omega, hide (by have := num_lt D; unfold numU; rw [Nat.div_eq_of_lt (by omega)])⟩
  case round =>
    obtain ⟨t, q, ht, rfl, rfl, hq, hQ⟩ := hrel
    by_cases hz : t = 0
    · subst hz
      have E := hide (show q = num D by rw [unhide hQ]; unfold numU; simp)
      go_wp2_with fail
      go_ret
      exact ⟨by rw [← unhide E]; rfl, rfl⟩
    obtain ⟨j, rfl⟩ : ∃ j, t = j + 1 := ⟨t - 1, by omega⟩
    obtain ⟨b', off', e', _, _, hrow⟩ := (unhide HS).at (k := j) (by omega)
    simp only [Option.some.injEq, Addr.mk.injEq] at e'
    obtain ⟨rfl, rfl, _⟩ := e'
    have hkl : j < D.length := by rw [← unhide hll]; omega
    have c0 := hrow j hkl
    rw [Nat.zero_add] at c0
    have hst := hide (numU_step D j (by omega))
    rw [getD_at' _ _ hkl, ← unhide hQ] at hst
    have hlt := numU_lt D j
    rw [unhide hst] at hlt
    clear hrow
    generalize D[j] = c at c0 hst hlt
    unfold byteV at c0
    go_wp2_with fail
    exact ⟨⟨j, q * 256 + c.toNat, by omega, rfl, by simp, hlt, hide (unhide hst).symm⟩, by simp [intOf]⟩

/-- What ties R to the data. -/
def eN (r : Nat) (d : List UInt8) : Nat := num (dig (bytes4 r ++ dig d)) % 1073741789
theorem eN_lt (r : Nat) (d : List UInt8) : eN r d < 1073741789 := Nat.mod_lt _ (by decide)
end Go.Proofs.YtlgloffdinnpfaaDoor.D
