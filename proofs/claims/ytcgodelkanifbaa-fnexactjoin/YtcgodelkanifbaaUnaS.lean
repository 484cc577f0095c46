/- spec.l2Unarmor, Unarmor. -/
import Derived.Test.YtcgodelkanifbaaUnaJ
import Derived.Deep.QuietTactic
namespace Go.Proofs.Ytcgodelkanifbaa
open Go.RowKit

theorem quiet_same {P : Program} {f : FuncId} {args : Array Value} {w : World} {v : Value} {m : Nat} (h : Calls P f args (w.drewN m) fun e w' => e = .returned v ∧ w.drewN m = w') :
    Calls P f args (w.drewN m) fun e w' => e = .returned v ∧ ∃ m, w' = w.drewN m := h.mono fun _ _ ⟨a, b⟩ => ⟨a, m, b.symm⟩
theorem or_bit (c p s : Nat) : (c ||| 2 ^ p) / 2 ^ s % 2 = if s = p then 1 else c / 2 ^ s % 2 := by
  have h1 := Nat.testBit_eq_decide_div_mod_eq (x := c ||| 2 ^ p) (i := s)
  have h2 := Nat.testBit_eq_decide_div_mod_eq (x := c) (i := s)
  rw [Nat.testBit_or, Nat.testBit_two_pow] at h1
  have b1 : (c ||| 2 ^ p) / 2 ^ s % 2 < 2 := Nat.mod_lt _ (by decide)
  have b2 : c / 2 ^ s % 2 < 2 := Nat.mod_lt _ (by decide)
  generalize (c ||| 2 ^ p) / 2 ^ s % 2 = x at *
  generalize c / 2 ^ s % 2 = y at *
  by_cases e : s = p
  · rw [if_pos e]
    rw [decide_eq_true e.symm, Bool.or_true] at h1
    simpa using h1.symm
  · rw [if_neg e]
    rw [decide_eq_false (fun h => e h.symm), Bool.or_false, h2] at h1
    have : (y = 1) ↔ (x = 1) := by simpa using h1
    omega
/-- Bit p set. -/
def setBit (C : List UInt8) (p : Nat) : List UInt8 := C.set (p / 8) (UInt8.ofNat ((C.getD (p / 8) 0).toNat ||| 2 ^ (7 - p % 8)))
theorem or_lt (c : UInt8) (p : Nat) (hp : p ≤ 7) : c.toNat ||| 2 ^ p < 256 := Nat.or_lt_two_pow (n := 8) c.toNat_lt (Nat.pow_lt_pow_right (by decide) (by omega))
theorem setBit_bit (C : List UInt8) (p k : Nat) (hp : p < 8 * C.length) : bit (setBit C p) k = if k = p then 1 else bit C k := by
  have hq : p / 8 < C.length := by omega
  unfold bit setBit
  by_cases e : k / 8 = p / 8
  · have e1 : (C.set (p / 8) (UInt8.ofNat ((C.getD (p / 8) 0).toNat ||| 2 ^ (7 - p % 8)))).getD (k / 8) 0 = UInt8.ofNat ((C.getD (p / 8) 0).toNat ||| 2 ^ (7 - p % 8)) := by
      rw [List.getD_eq_getElem?_getD, e, List.getElem?_set_self hq]; rfl
    have hlt := or_lt (C.getD (p / 8) 0) (7 - p % 8) (by omega)
    rw [e1, UInt8.toNat_ofNat', Nat.mod_eq_of_lt hlt, or_bit, e]
    by_cases e2 : k = p
    · rw [if_pos (by omega), if_pos e2]
    · rw [if_neg (by omega), if_neg e2]
  · have e1 : (C.set (p / 8) (UInt8.ofNat ((C.getD (p / 8) 0).toNat ||| 2 ^ (7 - p % 8)))).getD (k / 8) 0 = C.getD (k / 8) 0 := by
      rw [List.getD_eq_getElem?_getD, List.getElem?_set_ne (fun h => e h.symm), ← List.getD_eq_getElem?_getD]
    rw [e1, if_neg (fun h => e (by rw [h]))]
theorem setBit_len (C : List UInt8) (p : Nat) : (setBit C p).length = C.length := by simp [setBit]
theorem bit_zero (n k : Nat) : bit (List.replicate n 0) k = 0 := by
  unfold bit
  rw [List.getD_eq_getElem?_getD]
  by_cases h : k / 8 < n
  · rw [List.getElem?_replicate_of_lt h]; simp
  · rw [List.getElem?_eq_none (by simp; omega)]; simp
theorem five_bit (l : List UInt8) (b t : Nat) (ht : t < 5) : five l b / 2 ^ (4 - t) % 2 = bit l (b + t) := by
  have h0 := bit_lt l (b + 0)
  have h1 := bit_lt l (b + 1)
  have h2 := bit_lt l (b + 2)
  have h3 := bit_lt l (b + 3)
  have h4 := bit_lt l (b + 4)
  simp only [five, pre]
  have hc : t = 0 ∨ t = 1 ∨ t = 2 ∨ t = 3 ∨ t = 4 := by omega
  rcases hc with rfl | rfl | rfl | rfl | rfl
  all_goals
    simp only [Nat.reduceSub, Nat.reducePow]
    omega
theorem bits_eq {C d : List UInt8} (hl : C.length = d.length) (h : ∀ k, k < 8 * C.length → bit C k = bit d k) : C = d := by
  have hp : ∀ k t, k < C.length → t ≤ 8 → pre C (8 * k) t = pre d (8 * k) t := by
    intro k t hk
    induction t with
    | zero => intro _; rfl
    | succ t ih => intro ht; simp only [pre]; rw [ih (by omega), h _ (by omega)]
  apply List.ext_getElem hl
  intro i h1 h2
  have := hp i 8 h1 (Nat.le_refl _)
  rw [byte8 C i h1, byte8 d i h2] at this
  exact UInt8.toNat_inj.1 this
/-- The bits of the data so far: those of what the text is the armour of, up to p. -/
def BitsTo (t C : List UInt8) (p : Nat) : Prop := ∀ d, t = arm d → ∀ k, k < 8 * C.length → bit C k = if k < p then bit d k else 0
theorem BitsTo.guess {t C : List UInt8} {p : Nat} (h : BitsTo t C p) (hp : 5 * t.length ≤ p) (hC : C.length = 5 * t.length / 8) : Guess t C := by
  intro d hd
  have hn : t.length = many d.length := by rw [hd, arm_len]
  have hl : C.length = d.length := by rw [hC, hn, many_back]
  refine bits_eq hl fun k hk => ?_
  rw [h d hd k hk, if_pos]
  omega
theorem una_of' {t D : List UInt8} (hg : Guess t D) (ok : Bool) (h : ok = true → arm D = t ∧ D.length ≤ 20000) (k : ok = false → ¬ (arm D = t ∧ D.length ≤ 20000)) : (ok = true → UnaRes t D true) ∧ (ok = false → UnaRes t [] false) := by
  refine ⟨fun e => .inl ⟨rfl, (h e).1, (h e).2⟩, fun e => .inr ⟨rfl, rfl, fun d hd ed => k e ?_⟩⟩
  have := hg d ed.symm
  subst this
  exact ⟨ed, hd⟩
end Go.Proofs.Ytcgodelkanifbaa
