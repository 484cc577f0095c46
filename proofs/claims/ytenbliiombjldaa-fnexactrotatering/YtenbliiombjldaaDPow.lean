/- Powers: impl.power, spec.l2Power; secrets; PublicOf on both sides. -/
import Derived.Test.YtenbliiombjldaaRows
import Derived.Test.YtenbliiombjldaaDArith
import Derived.WalkKit
import Derived.WalkSpells
import Derived.WalkLawsBesides
import Derived.Below
import Derived.Laws.Bits64b
namespace Go.Proofs.Ytenbliiombjldaa.D
open Go.RowKit

theorem hide {p : Prop} (h : p) : Hid p := h
theorem unhide {p : Prop} (h : Hid p) : p := h.out
theorem bAl {w w' : World} (h : Below w.heap.size w w') (o : Obj) : Below w.heap.size w (w'.alloc o) := h.alloc h.size o
theorem bTr {w a b : World} (h : Below w.heap.size w a) (k : Below a.heap.size a b) : Below w.heap.size w b := h.trans (k.mono h.size)
theorem ret_bool {a b : Bool} (h : a = b) : Ending.returned (.bool a) = .returned (.bool b) := by rw [h]
theorem ret_int {a b : Int} (h : a = b) : Ending.returned (.int .i64 a) = .returned (.int .i64 b) := by rw [h]

theorem mul_ok {a b m : Nat} (ha : a < m) (hb : b < m) (hm : m < 2147483648) : (0 : Int) ≤ (a : Int) * (b : Int) ∧ (a : Int) * (b : Int) < 4611686018427387904 := by
  have := mulLt ha hb hm
  rw [← Int.natCast_mul]; omega

/-- The power, under a name that no simp opens. -/
def pw (b e m : Nat) : Nat := b ^ e % m
theorem pw_lt (b e m : Nat) (h : 1 < m) : pw b e m < m := Nat.mod_lt _ (by omega)
theorem wraps_i64 (n : Int) (h₀ : 0 ≤ n) (h₁ : n < 2 ^ 63) : IntKind.i64.wrap n = n := by rw [IntKind.wrap_i64]; omega
theorem and1 (x : Int) (h0 : 0 ≤ x) (h1 : x < 9223372036854775808) : bits .and .i64 x 1 = x % 2 := bits_mask .i64 63 (by decide) wraps_i64 1 (by decide) x h0 h1
theorem odd_step (o b e m B E : Nat) (h : (o * b ^ e) % m = B ^ E % m) (he : e % 2 = 1) : ((o * b % m) * (b * b % m) ^ (e / 2)) % m = B ^ E % m := by rw [powOdd _ _ _ _ he, h]
theorem even_step (o b e m B E : Nat) (h : (o * b ^ e) % m = B ^ E % m) (he : e % 2 = 0) : (o * (b * b % m) ^ (e / 2)) % m = B ^ E % m := by rw [powEven _ _ _ _ he, h]

set_option maxHeartbeats 1000000 in
theorem iPower_any (B E m : Nat) (hB : B < m) (h1 : 1 < m) (hm : m < 2147483648) (hE : E < 2199023255552) (w : World) :
    Calls Try.prog 57 #[.int .i64 B, .int .i64 E, .int .i64 m] w fun e w' => e = .returned (.int .i64 (pw B E m)) ∧ w = w' := by
  go_enter Try.func57, Try.ntmps57
  go_wp2_with fail
  go_loop [0, 1, 7] (fun b e o => ∃ (b' e' o' : Nat), b = .int .i64 b' ∧ e = .int .i64 e' ∧ o = .int .i64 o' ∧ b' < m ∧ o' < m ∧ e' < 2199023255552 ∧ Hid ((o' * b' ^ e') % m = B ^ E % m)) (fun _ e _ => (intOf e).toNat)
  case atStart => exact ⟨B, E, 1, rfl, rfl, rfl, hB, h1, hE, hide (by rw [Nat.one_mul])⟩
  case round =>
    obtain ⟨b', e', o', rfl, rfl, rfl, hb, ho, he, hrel⟩ := hrel
    have hm1 := mul_ok ho hb hm
    have hm2 := mul_ok hb hb hm
    have hand := and1 (e' : Int) (by omega) (by omega)
    have m0 : ¬ (m : Int) = 0 := by omega
    have m1 : (1 : Int) ≤ m := by omega
    by_cases hz : e' = 0
    · subst hz
      go_wp2_with fail
      go_ret
      exact ⟨by rw [← Nat.mod_eq_of_lt ho]; have := unhide hrel; rw [Nat.pow_zero, Nat.mul_one] at this; rw [this]; rfl, rfl⟩
    have hpos : (0 : Int) < e' := by omega
    by_cases hp : e' % 2 = 1
    · have hb1 : bits .and .i64 (e' : Int) 1 = 1 := by rw [hand]; omega
      clear hand
      go_wp2_with fail
      exact ⟨⟨b' * b' % m, e' / 2, o' * b' % m, by simp, by simp, by simp, Nat.mod_lt _ (by omega), Nat.mod_lt _ (by omega), by omega, hide (odd_step _ _ _ _ _ _ (unhide hrel) hp)⟩, by simp [intOf]; omega⟩
    · have hb1 : bits .and .i64 (e' : Int) 1 = 0 := by rw [hand]; omega
      clear hand
      go_wp2_with fail
      exact ⟨⟨b' * b' % m, e' / 2, o', by simp, by simp, by simp, Nat.mod_lt _ (by omega), ho, by omega, hide (even_step _ _ _ _ _ _ (unhide hrel) (by omega))⟩, by simp [intOf]; omega⟩

theorem up0 (a m n i : Nat) (h : n / 2 ^ i % 2 = 0) : (a ^ (n / 2 ^ (i + 1)) % m) * (a ^ (n / 2 ^ (i + 1)) % m) % m = a ^ (n / 2 ^ i) % m := by
  rw [Nat.pow_succ, ← Nat.div_div_eq_div_mul]; exact powUp0 a m _ h
theorem up1 (a m n i : Nat) (h : n / 2 ^ i % 2 = 1) : ((a ^ (n / 2 ^ (i + 1)) % m) * (a ^ (n / 2 ^ (i + 1)) % m) % m) * a % m = a ^ (n / 2 ^ i) % m := by
  rw [Nat.pow_succ, ← Nat.div_div_eq_div_mul]; exact powUp1 a m _ h

set_option maxHeartbeats 1000000 in
theorem sPower_any (a n m : Nat) (ha : a < m) (h1 : 1 < m) (hm : m < 2147483648) (hn : n < 2199023255552) (w : World) :
    Calls Try.prog 36 #[.int .i64 a, .int .i64 n, .int .i64 m] w fun e w' => e = .returned (.int .i64 (pw a n m)) ∧ w = w' := by
  go_enter Try.func36, Try.ntmps36
  go_wp2_with fail
  go_loop [7, 8] (fun o i => ∃ (o' i' : Nat), o = .int .i64 o' ∧ i = .int .i64 ((i' : Int) - 1) ∧ i' ≤ 41 ∧ o' < m ∧ Hid (o' = a ^ (n / 2 ^ i') % m)) (fun _ i => (intOf i + 1).toNat)
  case atStart => exact ⟨1, 41, rfl, rfl, Nat.le_refl _, h1, hide (by rw [Nat.div_eq_of_lt (by omega), Nat.pow_zero, Nat.mod_eq_of_lt h1])⟩
  case round =>
    obtain ⟨o', i', rfl, rfl, hi, ho, hrel⟩ := hrel
    have hm1 := mul_ok ho ho hm
    have m0 : ¬ (m : Int) = 0 := by omega
    have m1 : (1 : Int) ≤ m := by omega
    by_cases hz : i' = 0
    · subst hz
      go_wp2_with fail
      go_ret
      exact ⟨by have := unhide hrel; rw [Nat.pow_zero, Nat.div_one] at this; rw [this]; rfl, rfl⟩
    obtain ⟨j, rfl⟩ : ∃ j, i' = j + 1 := ⟨i' - 1, by omega⟩
    have hm3 : (0 : Int) ≤ (o' : Int) * (o' : Int) % (m : Int) * (a : Int) ∧ (o' : Int) * (o' : Int) % (m : Int) * (a : Int) < 4611686018427387904 := by
      have := mul_ok (Nat.mod_lt (o' * o') (show m > 0 by omega)) ha hm
      simpa using this
    have hq : ((n / 2 ^ j : Nat) : Int) = (n : Int) / 2 ^ j := by simp
    have hand : bits .and .i64 ((n : Int) / 2 ^ j) 1 = ((n / 2 ^ j % 2 : Nat) : Int) := by
      rw [← hq, and1 _ (Int.natCast_nonneg _) (by have := Nat.div_le_self n (2 ^ j); omega)]; simp
    by_cases hp : n / 2 ^ j % 2 = 1
    · have hb1 : bits .and .i64 ((n : Int) / 2 ^ j) 1 = 1 := by rw [hand, hp]; rfl
      clear hand hq
      go_wp2_with fail
      exact ⟨⟨o' * o' % m * a % m, j, by simp only [Int.natCast_emod, Int.natCast_mul], rfl, by omega, Nat.mod_lt _ (by omega), hide (by rw [unhide hrel]; exact up1 a m n j hp)⟩, by simp [intOf]⟩
    · have hb1 : bits .and .i64 ((n : Int) / 2 ^ j) 1 = 0 := by rw [hand, show n / 2 ^ j % 2 = 0 by omega]; rfl
      clear hand hq
      go_wp2_with fail
      exact ⟨⟨o' * o' % m, j, by simp, rfl, by omega, Nat.mod_lt _ (by omega), hide (by rw [unhide hrel]; exact up0 a m n j (by omega))⟩, by simp [intOf]⟩

/-- A secret. -/
def secB (n : Int) : Bool := decide (1 ≤ n) && decide (n < 1073741789)
theorem secB_nat {n : Int} (h : secB n = true) : ∃ k : Nat, n = k ∧ 1 ≤ k ∧ k < 1073741789 := by
  simp [secB] at h
  exact ⟨n.toNat, by omega, by omega, by omega⟩
/-- The public number. -/
def pubOf (n : Int) : Nat := if secB n then pw 4 n.toNat 2147483579 else 0
end Go.Proofs.Ytenbliiombjldaa.D
