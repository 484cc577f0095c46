/- spec.DrawNameText. -/
import Derived.Test.YtgfecakjdoccmaaXOdd
namespace Go.Proofs.Ytgfecakjdoccmaa.C
open Go.RowKit

theorem ON.ok {l : List PartT} (h : ON l) : ∀ q ∈ l, PartT.Ok q := fun q hq => ⟨by have := h.2.2 q hq; unfold maxLen; omega, by have := h.2.2 q hq; unfold maxLen; omega⟩
theorem own_at {w : World} {base : Nat} {v : Value} {l : List PartT} (h : w.ownsRow base 55 2 v l.length (partsV l)) (hl : 1 ≤ l.length) : ∃ g c, v = .slice (some ⟨g, 0, none⟩) l.length c ∧ l.length ≤ c ∧ PartRow w g 0 l := by
  obtain ⟨a, cap, e, hs⟩ := own_parts h
  rcases h.2 with ⟨_, e0⟩ | ⟨g, c, cur, rfl, _, _, hc, _⟩
  · omega
  · simp only [Value.slice.injEq, true_and] at e
    obtain ⟨rfl, rfl⟩ := e
    rcases hs.2 with e | ⟨b, off, e, hr⟩
    · rw [e] at hl; simp at hl
    · simp only [Option.some.injEq, Addr.mk.injEq, and_true] at e
      obtain ⟨rfl, rfl⟩ := e
      exact ⟨_, _, rfl, hc, hr⟩

set_option maxHeartbeats 1000000 in
theorem drawNameText_any (a : Option Addr) (len cap : Nat) (w : World) (hcode : CodeAt w w.heap.size a len) :
    Calls Try.prog 8 #[.slice a len cap] w fun e w' => ∃ (g c : Nat) (l : List PartT), e = .returned (.slice (some ⟨g, 0, none⟩) l.length c) ∧ ON l ∧ l.length ≤ c ∧ PartRow w' g 0 l ∧ Below w.heap.size w w' := by
  have HC := hide hcode
  clear hcode
  go_enter Try.func8, Try.ntmps8
  go_wp2_with fail
  refine (dirName_any w.heap.size 0 _ (by omega) (cur_new (unhide HC) cap)).mono ?_
  rintro e w1 ⟨v, l, rfl, hd, hs⟩
  have Z := hide hs
  have HD := hide hd
  clear hs hd
  go_wp2_with fail
  refine (oddDirName_any _ w.heap.size (0 + 10) v l w1 (by omega) (unhide HD) (unhide Z)).mono ?_
  rintro e w2 ⟨v2, l2, rfl, ho, hs⟩
  obtain ⟨g, c, rfl, hc, hr⟩ := own_at hs.o ho.1
  have B3 := hide ((But.refl w.heap.size w).al (.cells #[.slice a len cap, .int .i64 0, .int .u64 0] 49) |>.trans hs.t)
  have HR := hide hr
  have HO := hide ho
  have HCC := hide hc
  clear hs hr ho hc
  go_wp2_with fail
  go_ret
  exact ⟨g, c, l2, rfl, unhide HO, unhide HCC, unhide HR, (unhide B3).below (Nat.le_refl _) (Nat.le_refl _)⟩
end Go.Proofs.Ytgfecakjdoccmaa.C
