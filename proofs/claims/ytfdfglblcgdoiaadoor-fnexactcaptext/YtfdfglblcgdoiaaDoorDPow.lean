/- Powers: impl.power, spec.l2Power; secrets; PublicOf on both sides. -/
import Derived.Test.YtfdfglblcgdoiaaDoorRows
import Derived.Test.YtfdfglblcgdoiaaDoorDArith
import Derived.WalkKit
import Derived.WalkSpells
import Derived.WalkLawsBesides
import Derived.Below
import Derived.Laws.Bits64b
namespace Go.Proofs.YtfdfglblcgdoiaaDoor.D
open Go.RowKit

theorem hide {p : Prop} (h : p) : Hid p := h
theorem unhide {p : Prop} (h : Hid p) : p := h.out
theorem bAl {w w' : World} (h : Below w.heap.size w w') (o : Obj) : Below w.heap.size w (w'.alloc o) := h.alloc h.size o
theorem bTr {w a b : World} (h : Below w.heap.size w a) (k : Below a.heap.size a b) : Below w.heap.size w b := h.trans (k.mono h.size)
theorem ret_bool {a b : Bool} (h : a = b) : Ending.returned (.bool a) = .returned (.bool b) := by rw [h]
theorem ret_int {a b : Int} (h : a = b) : Ending.returned (.int .i64 a) = .returned (.int .i64 b) := by rw [h]

theorem mul_ok {a b m : Nat} (ha : a < m) (hb : b < m) (hm : m < 2147483648) : (0 : Int) ≤ (a : Int) * (b : Int) ∧ (a : Int) * (b : Int) < 4611686018427387904 := by
  have := mulLt ha hb hm
  rw [← Int.natCast_mul]; omega

/-- The power, under a name that no simp opens. -/
def pw (b e m : Nat) : Nat := b ^ e % m
theorem pw_lt (b e m : Nat) (h : 1 < m) : pw b e m < m := Nat.mod_lt _ (by omega)
theorem wraps_i64 (n : Int) (h₀ : 0 ≤ n) (h₁ : n < 2 ^ 63) : IntKind.i64.wrap n = n := by rw [IntKind.wrap_i64]; omega
theorem and1 (x : Int) (h0 : 0 ≤ x) (h1 : x < 9223372036854775808) : bits .and .i64 x 1 = x % 2 := bits_mask .i64 63 (by decide) wraps_i64 1 (by decide) x h0 h1
theorem odd_step (o b e m B E : Nat) (h : (o * b ^ e) % m = B ^ E % m) (he : e % 2 = 1) : ((o * b % m) * (b * b % m) ^ (e / 2)) % m = B ^ E % m := by rw [powOdd _ _ _ _ he, h]
theorem even_step (o b e m B E : Nat) (h : (o * b ^ e) % m = B ^ E % m) (he : e % 2 = 0) : (o * (b * b % m) ^ (e / 2)) % m = B ^ E % m := by rw [powEven _ _ _ _ he, h]

theorem up0 (a m n i : Nat) (h : n / 2 ^ i % 2 = 0) : (a ^ (n / 2 ^ (i + 1)) % m) * (a ^ (n / 2 ^ (i + 1)) % m) % m = a ^ (n / 2 ^ i) % m := by
  rw [Nat.pow_succ, ← Nat.div_div_eq_div_mul]; exact powUp0 a m _ h
theorem up1 (a m n i : Nat) (h : n / 2 ^ i % 2 = 1) : ((a ^ (n / 2 ^ (i + 1)) % m) * (a ^ (n / 2 ^ (i + 1)) % m) % m) * a % m = a ^ (n / 2 ^ i) % m := by
  rw [Nat.pow_succ, ← Nat.div_div_eq_div_mul]; exact powUp1 a m _ h

/-- A secret. -/
def secB (n : Int) : Bool := decide (1 ≤ n) && decide (n < 1073741789)
theorem secB_nat {n : Int} (h : secB n = true) : ∃ k : Nat, n = k ∧ 1 ≤ k ∧ k < 1073741789 := by
  simp [secB] at h
  exact ⟨n.toNat, by omega, by omega, by omega⟩
/-- The public number. -/
def pubOf (n : Int) : Nat := if secB n then pw 4 n.toNat 2147483579 else 0
end Go.Proofs.YtfdfglblcgdoiaaDoor.D
