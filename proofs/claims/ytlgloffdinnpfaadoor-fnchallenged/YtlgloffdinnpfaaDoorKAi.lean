/- FnChallenged: what an answer that was given brings; the law's walk. -/
import Derived.Test.YtlgloffdinnpfaaDoorKAe
import Derived.Test.YtlgloffdinnpfaaDoorDSigM
namespace Go.Proofs.YtlgloffdinnpfaaDoor.D
set_option maxRecDepth 20000
open Go.RowKit

theorem pub_of {s : Int} (h : secB s = true) : ∃ k : Nat, s = k ∧ 1 ≤ k ∧ k < 1073741789 ∧ pubOf s = pw 4 k 2147483579 := by
  have hb := h
  unfold secB at h
  rw [Bool.and_eq_true, decide_eq_true_eq, decide_eq_true_eq] at h
  refine ⟨s.toNat, by omega, by omega, by omega, ?_⟩
  unfold pubOf
  rw [if_pos hb]
/-- What is known of an answer that was given. -/
structure ChA (s : Int) (o : ByteArray) (c : List UInt8) (n : Int) (r z : Nat) : Prop where
  pub : PubIs ((pubOf s : Nat) : Int) true
  ver : ∀ nn : Nat, n = nn → VerIs ((pubOf s : Nat) : Int) (ansD o.data.toList c nn) (r : Int) (z : Int) true
  ask : AskOk o.size c.length n
theorem chA_of {s : Int} {o o' : ByteArray} {c : List UInt8} {n n' : Int} {r z : Nat} (h : AnsIs s o c n o' n' r z) (q : ansOk s o.size c.length n) : o' = o ∧ n' = n ∧ ChA s o c n r z := by
  obtain ⟨e1, e2, e3⟩ := h.yes q
  obtain ⟨k, hk, k1, k2, hp⟩ := pub_of q.1
  refine ⟨e1, e2, by rw [hp]; exact pub_is k k1 k2, fun nn hn => ?_, q.2⟩
  subst hk
  rw [hp, e3.r, e3.z, Int.toNat_natCast, hn, Int.toNat_natCast]
  have v := ver_is k (ansD o.data.toList c nn) k1 k2 (by rw [ansD_len]; omega) (zN k (ansD o.data.toList c nn)) (zN_lt _ _)
  rw [decide_eq_true rfl] at v
  exact v
theorem ck_first {s : Int} {o : ByteArray} {c : List UInt8} {n : Int} {r z : Nat} (h : ChA s o c n r z) (hn : n ≠ 0) (a : Option Addr) (cap : Nat) : ckA ⟨o, n, r, z, pubOf s, o, n - 1, a, c.length, cap⟩ true true = 0 := by
  obtain ⟨⟨h1, h2⟩, h3, h4, h5⟩ := h.ask
  unfold ckA unf oth flt AskOk
  simp only
  rw [decide_eq_true (show (1 ≤ o.size ∧ o.size ≤ 100) ∧ c.length ≤ 100 ∧ 0 ≤ n - 1 ∧ n - 1 ≤ 1000000000 by omega), decide_eq_true (show 0 ≤ n ∧ n ≤ 1000000000 by omega), decide_eq_false (show ¬ n ≤ n - 1 by omega)]
  simp
theorem ck_again {s : Int} {o : ByteArray} {c : List UInt8} {n : Int} {r z : Nat} (h : ChA s o c n r z) (a : Option Addr) (cap : Nat) : ckA ⟨o, n, r, z, pubOf s, o, n, a, c.length, cap⟩ true true = 3 := by
  obtain ⟨⟨h1, h2⟩, h3, h4, h5⟩ := h.ask
  unfold ckA unf oth flt AskOk
  simp only
  rw [decide_eq_true (show (1 ≤ o.size ∧ o.size ≤ 100) ∧ c.length ≤ 100 ∧ 0 ≤ n ∧ n ≤ 1000000000 by omega), decide_eq_true (show 0 ≤ n ∧ n ≤ 1000000000 by omega), decide_eq_true (show n ≤ n by omega)]
  simp
theorem ck_other {s : Int} {o o2 : ByteArray} {c : List UInt8} {n : Int} {r z : Nat} (h : ChA s o c n r z) (hn : n ≠ 0) (h2 : o2.size = o.size + 1) (h3 : o2.size ≤ 100) (a : Option Addr) (cap : Nat) : ckA ⟨o, n, r, z, pubOf s, o2, n - 1, a, c.length, cap⟩ true true = 2 := by
  obtain ⟨⟨h1, h4⟩, h5, h6, h7⟩ := h.ask
  unfold ckA unf oth flt AskOk
  simp only
  rw [decide_eq_true (show (1 ≤ o2.size ∧ o2.size ≤ 100) ∧ c.length ≤ 100 ∧ 0 ≤ n - 1 ∧ n - 1 ≤ 1000000000 by omega), decide_eq_true (show 0 ≤ n ∧ n ≤ 1000000000 by omega), decide_eq_false (show ¬ o = o2 by intro e; rw [← e] at h2; omega)]
  rfl
end Go.Proofs.YtlgloffdinnpfaaDoor.D
