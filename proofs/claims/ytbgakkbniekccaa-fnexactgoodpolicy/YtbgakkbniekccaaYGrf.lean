/- impl.exprOf, GoodExpr. -/
import Derived.Test.YtbgakkbniekccaaYGro
namespace Go.Proofs.Ytbgakkbniekccaa.V
open Go.RowKit Go.Maps

set_option maxRecDepth 20000 in
set_option maxHeartbeats 1000000 in
theorem exprOf_any (a : Option Addr) (len cap : Nat) (l : List ExprT) (w : World) (hl : len ≤ 1048576) (hc : len ≤ cap) (hs : SlExpr w a len l) (hok : ∀ q ∈ l, ExprT.Ok q) :
    Calls Try.prog 25 #[.slice a len cap] w fun e w' => (∃ v b, e = .returned (.tuple #[v, .bool b]) ∧ (b = true ↔ GExpr l)) ∧ Below w.heap.size w w' := by
  by_cases h60 : len ≤ 60
  · have q := hide (growExpr_any w.heap.size 12 a len cap l w (by omega) (by omega) hc hs hok hs.inB (Nat.le_refl _))
    have HL := hide hs.1
    clear hs hok hc
    go_enter Try.func25, Try.ntmps25
    go_wp2_with fail
    refine (unhide q).mono ?_
    rintro e w1 ⟨(⟨hg, v1, v2, rfl⟩ | ⟨t, l', T, u, a', cap', hg, rfl, _⟩), hb1⟩
    · have no : Hid (¬ GExpr l) := hide (fun ⟨_, t, h⟩ => by rw [hg] at h; cases h)
      clear hg q
      go_wp2_with fail
      go_ret2
      exact ⟨⟨_, _, rfl, ⟨fun h => (by cases h), fun h => absurd h (unhide no)⟩⟩, hb1⟩
    · cases l' with
      | nil =>
        have yes : Hid (GExpr l) := hide ⟨by have := unhide HL; omega, t, hg⟩
        clear hg q
        go_wp2_with fail
        go_ret2
        exact ⟨⟨_, _, rfl, ⟨fun _ => unhide yes, fun _ => rfl⟩⟩, hb1⟩
      | cons y l2 =>
        have no : Hid (¬ GExpr l) := hide (fun ⟨_, t', h⟩ => by rw [hg] at h; simp at h)
        have d : ((l2.length : Int) + 1 == 0) = false := by simp; omega
        clear hg q
        go_wp2_with fail
        go_ret2
        exact ⟨⟨_, _, rfl, ⟨fun h => (by simp at h), fun h => absurd h (unhide no)⟩⟩, hb1⟩
  · have no : Hid (¬ GExpr l) := hide (fun ⟨h, _⟩ => by rw [← hs.1] at h; exact h60 h)
    have d : ¬ len ≤ 60 := h60
    clear hs hok hc
    go_enter Try.func25, Try.ntmps25
    go_wp2_with fail
    go_ret2
    exact ⟨⟨_, _, rfl, ⟨fun h => (by cases h), fun h => absurd h (unhide no)⟩⟩, Below.refl _ _⟩

theorem iGoodExpr_any (a : Option Addr) (len cap : Nat) (l : List ExprT) (w : World) (hl : len ≤ 1048576) (hc : len ≤ cap) (hs : SlExpr w a len l) (hok : ∀ q ∈ l, ExprT.Ok q) :
    Calls Try.prog 9 #[.slice a len cap] w fun e w' => RetB e (GExpr l) ∧ Below w.heap.size w w' := by
  have q := hide (exprOf_any a len cap l w hl hc hs hok)
  clear hs hok hc
  go_enter Try.func9, Try.ntmps9
  go_wp2_with fail
  refine (unhide q).mono ?_
  rintro e w1 ⟨⟨v, b, rfl, h⟩, hb1⟩
  have H := hide h
  clear h q
  go_wp2_with fail
  go_ret
  exact ⟨retB (unhide H), hb1⟩
end Go.Proofs.Ytbgakkbniekccaa.V
