/- impl.filterOf, GoodExpr. -/
import Derived.Test.YtlkpeolecfemnaaUGrp
namespace Go.Proofs.Ytlkpeolecfemnaa.V
open Go.RowKit Go.Maps

set_option maxRecDepth 20000 in
set_option maxHeartbeats 1000000 in
theorem filterOf_any (a : Option Addr) (len cap : Nat) (l : List FilterNodeT) (w : World) (hl : len ≤ 1048576) (hc : len ≤ cap) (hs : SlFilterNode w a len l) (hok : ∀ q ∈ l, FilterNodeT.Ok q) :
    Calls Try.prog 13 #[.slice a len cap] w fun e w' => (∃ v b, e = .returned (.tuple #[v, .bool b]) ∧ (b = true ↔ GFilt l) ∧ (b = true → ∃ t, growT 20 l = some (t, []) ∧ FilAt w' w.heap.size 20 t v)) ∧ Below w.heap.size w w' := by
  by_cases h60 : len ≤ 60
  · have q := hide (growFilter_any w.heap.size 20 a len cap l w (by omega) (by omega) hc hs hok hs.inB (Nat.le_refl _))
    have HL := hide hs.1
    clear hs hok hc
    go_enter Try.func13, Try.ntmps13
    go_wp2_with fail
    refine (unhide q).mono ?_
    rintro e w1 ⟨(⟨hg, v1, v2, rfl⟩ | ⟨t, l', T, u, a', cap', hg, rfl, _, _, _, _, hfa, _⟩), hb1⟩
    · have no : Hid (¬ GFilt l) := hide (fun ⟨_, t, h⟩ => by rw [hg] at h; cases h)
      clear hg q
      go_wp2_with fail
      go_ret2
      exact ⟨⟨_, _, rfl, ⟨fun h => (by cases h), fun h => absurd h (unhide no)⟩, fun h => by cases h⟩, hb1⟩
    · cases l' with
      | nil =>
        have yes : Hid (GFilt l) := hide ⟨by have := unhide HL; omega, t, hg⟩
        have HG := hide hg
        have HF := hide hfa
        clear hg q hfa
        go_wp2_with fail
        go_ret2
        exact ⟨⟨_, _, rfl, ⟨fun _ => unhide yes, fun _ => rfl⟩, fun _ => ⟨t, unhide HG, unhide HF⟩⟩, hb1⟩
      | cons y l2 =>
        have no : Hid (¬ GFilt l) := hide (fun ⟨_, t', h⟩ => by rw [hg] at h; simp at h)
        have d : ((l2.length : Int) + 1 == 0) = false := by simp; omega
        clear hg q hfa
        go_wp2_with fail
        go_ret2
        exact ⟨⟨_, _, rfl, ⟨fun h => (by simp at h), fun h => absurd h (unhide no)⟩, fun h => by simp at h⟩, hb1⟩
  · have no : Hid (¬ GFilt l) := hide (fun ⟨h, _⟩ => by rw [← hs.1] at h; exact h60 h)
    have d : ¬ len ≤ 60 := h60
    clear hs hok hc
    go_enter Try.func13, Try.ntmps13
    go_wp2_with fail
    go_ret2
    exact ⟨⟨_, _, rfl, ⟨fun h => (by cases h), fun h => absurd h (unhide no)⟩, fun h => by cases h⟩, Below.refl _ _⟩

end Go.Proofs.Ytlkpeolecfemnaa.V
