/- The armour, as lists. -/
namespace Go.Proofs.YtfdfglblcgdoiaaDoor.D

/-- The letters. -/
def letL : List UInt8 := [48, 49, 50, 51, 52, 53, 54, 55, 56, 57, 97, 98, 99, 100, 101, 102, 103, 104, 105, 106, 107, 108, 109, 110, 111, 112, 113, 114, 115, 116, 117, 118]
def letOf (n : Nat) : UInt8 := letL.getD n 0
/-- Bit k of the data, the highest of the first byte first; 0 behind the end. -/
def bit (l : List UInt8) (k : Nat) : Nat := (l.getD (k / 8) 0).toNat / 2 ^ (7 - k % 8) % 2
theorem bit_lt (l : List UInt8) (k : Nat) : bit l k < 2 := Nat.mod_lt _ (by decide)
/-- t bits from b on, as a number. -/
def pre (l : List UInt8) (b : Nat) : Nat → Nat
  | 0 => 0
  | t + 1 => 2 * pre l b t + bit l (b + t)
theorem pre_lt (l : List UInt8) (b t : Nat) : pre l b t < 2 ^ t := by
  induction t with
  | zero => simp [pre]
  | succ t ih => have := bit_lt l (b + t); rw [Nat.pow_succ]; simp only [pre]; omega
def five (l : List UInt8) (b : Nat) : Nat := pre l b 5
theorem five_lt (l : List UInt8) (b : Nat) : five l b < 32 := pre_lt l b 5
/-- How many letters. -/
def many (n : Nat) : Nat := (8 * n + 4) / 5
def arm (l : List UInt8) : List UInt8 := (List.range (many l.length)).map fun i => letOf (five l (5 * i))
theorem arm_len (l : List UInt8) : (arm l).length = many l.length := by simp [arm]
theorem arm_get (l : List UInt8) (i : Nat) (h : i < (arm l).length) : (arm l)[i] = letOf (five l (5 * i)) := by simp [arm]
theorem bit_app (p r : List UInt8) (hp : p.length = 5) (k : Nat) : bit (p ++ r) (40 + k) = bit r k := by
  unfold bit
  have h1 : (40 + k) / 8 = 5 + k / 8 := by omega
  have h2 : (40 + k) % 8 = k % 8 := by omega
  rw [h1, h2]
  congr 3
  rw [List.getD_eq_getElem?_getD, List.getD_eq_getElem?_getD, List.getElem?_append_right (by omega)]
  congr 2; omega
theorem bit_app_lt (p r : List UInt8) (hp : p.length = 5) (k : Nat) (hk : k < 40) : bit (p ++ r) k = bit p k := by
  unfold bit
  congr 3
  rw [List.getD_eq_getElem?_getD, List.getD_eq_getElem?_getD, List.getElem?_append_left (by omega)]
theorem pre_app (p r : List UInt8) (hp : p.length = 5) (b t : Nat) : pre (p ++ r) (40 + b) t = pre r b t := by
  induction t with
  | zero => rfl
  | succ t ih => simp only [pre]; rw [ih, Nat.add_assoc, bit_app p r hp]
theorem pre_app_lt (p r : List UInt8) (hp : p.length = 5) (b t : Nat) (h : b + t ≤ 40) : pre (p ++ r) b t = pre p b t := by
  induction t with
  | zero => rfl
  | succ t ih => simp only [pre]; rw [ih (by omega), bit_app_lt p r hp _ (by omega)]
theorem arm_app (p r : List UInt8) (hp : p.length = 5) : arm (p ++ r) = arm p ++ arm r := by
  apply List.ext_getElem
  · rw [List.length_append, arm_len, arm_len, arm_len, List.length_append, hp]; unfold many; omega
  · intro i h1 h2
    rw [arm_get]
    by_cases hi : i < 8
    · have h8 : i < (arm p).length := by rw [arm_len, hp]; exact hi
      rw [List.getElem_append_left h8, arm_get]
      unfold five
      rw [pre_app_lt p r hp _ _ (by omega)]
    · have h8 : (arm p).length = 8 := by rw [arm_len, hp]; rfl
      rw [List.getElem_append_right (by omega), arm_get]
      unfold five
      rw [← pre_app p r hp]
      congr 2; omega
theorem many_zero : many 0 = 0 := rfl
theorem arm_nil : arm [] = [] := rfl
theorem many_lt (n i : Nat) : i < many n ↔ 5 * i < 8 * n := by unfold many; omega

/-- The bytes of a part in one number. -/
def val (l : List UInt8) (t : Nat) : Nat := match t with
  | 0 => 0
  | t + 1 => val l t + (l.getD t 0).toNat * 2 ^ (8 * (4 - t))
set_option maxHeartbeats 4000000 in
theorem val_five (l : List UInt8) (i : Nat) (hi : i < 8) : val l 5 / 2 ^ (35 - 5 * i) % 32 = five l (5 * i) := by
  have h0 := (l.getD 0 0).toNat_lt
  have h1 := (l.getD 1 0).toNat_lt
  have h2 := (l.getD 2 0).toNat_lt
  have h3 := (l.getD 3 0).toNat_lt
  have h4 := (l.getD 4 0).toNat_lt
  have hc : i = 0 ∨ i = 1 ∨ i = 2 ∨ i = 3 ∨ i = 4 ∨ i = 5 ∨ i = 6 ∨ i = 7 := by omega
  rcases hc with rfl | rfl | rfl | rfl | rfl | rfl | rfl | rfl
  all_goals
    simp only [val, five, pre, bit, Nat.reduceMul, Nat.reduceAdd, Nat.reduceDiv, Nat.reduceMod, Nat.reduceSub, Nat.reducePow]
    generalize (l.getD 0 0).toNat = b0 at *
    generalize (l.getD 1 0).toNat = b1 at *
    generalize (l.getD 2 0).toNat = b2 at *
    generalize (l.getD 3 0).toNat = b3 at *
    generalize (l.getD 4 0).toNat = b4 at *
    omega
theorem val_lt (l : List UInt8) (t : Nat) (ht : t ≤ 5) : val l t < 2 ^ 40 := by
  have h0 := (l.getD 0 0).toNat_lt
  have h1 := (l.getD 1 0).toNat_lt
  have h2 := (l.getD 2 0).toNat_lt
  have h3 := (l.getD 3 0).toNat_lt
  have h4 := (l.getD 4 0).toNat_lt
  have hc : t = 0 ∨ t = 1 ∨ t = 2 ∨ t = 3 ∨ t = 4 ∨ t = 5 := by omega
  rcases hc with rfl | rfl | rfl | rfl | rfl | rfl
  all_goals
    simp only [val, Nat.reduceMul, Nat.reduceSub, Nat.reducePow]
    omega
/-- What is there so far has no bit of the next byte or below it. -/
theorem val_low (l : List UInt8) (t : Nat) (ht : t < 5) : val l t % 2 ^ (8 * (4 - t) + 8) = 0 := by
  have hc : t = 0 ∨ t = 1 ∨ t = 2 ∨ t = 3 ∨ t = 4 := by omega
  rcases hc with rfl | rfl | rfl | rfl | rfl
  all_goals
    simp only [val, Nat.reduceMul, Nat.reduceSub, Nat.reducePow, Nat.reduceAdd]
    try omega
theorem val_end (l : List UInt8) (n : Nat) (hn : l.length ≤ n) (h5 : n ≤ 5) : val l 5 = val l n := by
  have key : ∀ t, n ≤ t → val l t = val l n := by
    intro t
    induction t with
    | zero => intro h; obtain rfl : n = 0 := by omega
              rfl
    | succ t ih =>
      intro h
      by_cases e : n = t + 1
      · rw [e]
      · rw [← ih (by omega)]
        simp only [val]
        rw [List.getD_eq_getElem?_getD, List.getElem?_eq_none (by omega)]
        simp
  exact key 5 h5
end Go.Proofs.YtfdfglblcgdoiaaDoor.D
