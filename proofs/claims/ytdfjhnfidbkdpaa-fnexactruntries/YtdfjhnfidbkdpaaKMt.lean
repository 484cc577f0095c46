/- laws.markTryS, laws.heldTryS: a row of 2 cells an element. -/
import Derived.Test.YtdfjhnfidbkdpaaGMkT
import Derived.Test.YtdfjhnfidbkdpaaKTr
namespace Go.Proofs.Ytdfjhnfidbkdpaa
open Go.RowKit

def MCTry (C : Array Value) (o j : Nat) : Prop := C[o]? = some (.int .i64 ((j : Int))) ∧ C[o + 1]? = some (.bool (decide (((j : Int) + 1) % 3 = 0)))
def MarkedTry (C : Array Value) (s n : Nat) : Prop := ∀ i, i < n → MCTry C (i * 2) (s + i * 2)
def MarksTry (w : World) (v : Value) (s n : Nat) : Prop := (v = .slice none 0 0 ∧ n = 0) ∨ ∃ g cap C, v = .slice (some ⟨g, 0, none⟩) n cap ∧ RowIs w g C 47 ∧ MarkedTry C s n
theorem MarksTry.keep {w w' : World} {v : Value} {s n : Nat} (h : MarksTry w v s n) (hb : Below w.heap.size w w') : MarksTry w' v s n :=
  h.imp_right fun ⟨g, cap, C, e, r, m⟩ => ⟨g, cap, C, e, r.keep hb, m⟩
theorem MarkedTry.set {C : Array Value} {s k j : Nat} (h : MarkedTry C s k) (hs : k * 2 + 1 < C.size) (hj : j = s + k * 2) {V0 V1 : Value} (e0 : V0 = .int .i64 ((j : Int))) (e1 : V1 = .bool (decide (((j : Int) + 1) % 3 = 0))) : MarkedTry ((C.setIfInBounds (k * 2) (V0)).setIfInBounds (k * 2 + 1) (V1)) s (k + 1) := by
  intro i hi
  unfold MCTry
  by_cases e : i = k
  · subst e
    subst hj
    subst e0 e1
    have s0 : i * 2 < C.size := by omega
    have s1 : i * 2 + 1 < C.size := by omega
    simp [s0, s1]
  · have := h i (by omega)
    unfold MCTry at this
    simp only [Array.getElem?_setIfInBounds]
    repeat rw [if_neg (by omega)]
    exact this

set_option maxRecDepth 100000 in
set_option maxHeartbeats 4000000 in
theorem markTry_row (g n cap s : Nat) (C0 : Array Value) (w : World) (hn : n ≤ 1048576) (hs1 : 1 ≤ s) (hs9 : s ≤ 100000000) (hC : n * 2 ≤ C0.size) (hr : RowIs w g C0 47) :
    Calls Try.prog 15 #[.slice (some ⟨g, 0, none⟩) n cap, .int .i64 s] w fun e w' => e = .returned (.int .i64 ((s + n * 2 : Nat) : Int)) ∧ (∃ C, RowIs w' g C 47 ∧ MarkedTry C s n) ∧ w.grownBy w' (some g) := by
  have HR := hide hr
  clear hr
  go_enter Try.func15, Try.ntmps15
  go_wp2_with fail
  go_loopw [1, 5] (fun q i w' => ∃ (k j : Nat) (C : Array Value), k ≤ n ∧ i = .int .i64 k ∧ q = .int .i64 j ∧ 1 ≤ j ∧ j ≤ 200000000 ∧ Hid (j = s + k * 2) ∧ Hid (RowIs w' g C 47) ∧ Hid (n * 2 ≤ C.size) ∧ Hid (MarkedTry C s k) ∧ Hid (w.grownBy w' (some g))) (fun _ i _ => n - (intOf i).toNat)
  case atStart => exact ⟨0, s, C0, Nat.zero_le _, rfl, rfl, hs1, by omega, hide (by omega), HR, hide hC, hide (fun i h => absurd h (Nat.not_lt_zero _)), hide (World.grownBy.refl _ _)⟩
  case round =>
    obtain ⟨k, j, C, hk, rfl, rfl, hj1, hj2, hj, hR, hCs, hM, hb⟩ := hrel
    by_cases hlt : k < n
    · have i0 : (0 : Int) ≤ (k : Int) := by omega
      have i1 : (k : Int) < (n : Int) := by omega
      have ej : j ≤ 109437184 := by have := unhide hj; omega
      have s9 : k * 2 + 1 < C.size := by have := unhide hCs; omega
      have stM := hide ((unhide hM).set (j := j) (V0 := .int .i64 ((j : Int))) (V1 := .bool (decide (((j : Int) + 1) % 3 = 0))) s9 (unhide hj) rfl rfl)
      have R0 := hR
      have B0 := hb
      clear hR hb hM
      have f0 := (unhide R0).froz (k * 2)
      have g0 := (unhide R0).cell (k * 2)
      obtain ⟨D0, d0⟩ : ∃ D, (C)[k * 2]? = some D := ⟨_, Array.getElem?_eq_getElem (by first | omega | (simp; omega))⟩
      rw [d0] at g0
      clear d0
      have f1 := (unhide R0).froz (k * 2 + 1)
      have g1 := (unhide R0).cell (k * 2 + 1)
      obtain ⟨D1, d1⟩ : ∃ D, (C)[k * 2 + 1]? = some D := ⟨_, Array.getElem?_eq_getElem (by first | omega | (simp; omega))⟩
      rw [d1] at g1
      clear d1
      have R2 := hide (((unhide R0).set (k * 2) (.int .i64 ((j : Int)))).set (k * 2 + 1) (.bool (decide (((j : Int) + 1) % 3 = 0))))
      have B2 := hide (((unhide B0).trans (gSet _ g (k * 2) (.int .i64 ((j : Int))))).trans (gSet _ g (k * 2 + 1) (.bool (decide (((j : Int) + 1) % 3 = 0)))))
      clear R0 B0
      go_wp2_with fail
      exact ⟨⟨k + 1, j + 2, _, by omega, by go_num, by go_num, by omega, by omega, hide (by have := unhide hj; omega), R2, hide (by simp; exact unhide hCs), stM, B2⟩, by simp [intOf]; omega⟩
    · have e : k = n := by omega
      have ej := hide (show j = s + n * 2 by rw [← e]; exact unhide hj)
      go_wp2_with fail
      go_ret
      exact ⟨by rw [unhide ej]; rfl, ⟨C, unhide hR, by rw [← e]; exact unhide hM⟩, unhide hb⟩

theorem markTry_own (v : Value) (n s : Nat) (xs : List Value) (base : Nat) (w : World) (hn : n ≤ 1048576) (hs1 : 1 ≤ s) (hs9 : s ≤ 100000000) (h : w.ownsRow base 47 2 v n xs) :
    Calls Try.prog 15 #[v, .int .i64 s] w fun e w' => e = .returned (.int .i64 ((s + n * 2 : Nat) : Int)) ∧ MarksTry w' v s n ∧ w.grownBy w' v.ownBlock := by
  rcases h.2 with ⟨rfl, e0⟩ | ⟨g, cap, cur, rfl, _, hh, hc, _, hsz, _⟩
  · go_enter Try.func15, Try.ntmps15
    go_wp2_with fail
    go_loopw [1, 5] (fun q i w' => i = .int .i64 0 ∧ q = .int .i64 s ∧ w = w') (fun _ _ _ => 0)
    case atStart => exact ⟨rfl, rfl, rfl⟩
    case round =>
      obtain ⟨rfl, rfl, rfl⟩ := hrel
      go_wp2_with fail
      go_ret
      exact ⟨by rw [e0]; simp, .inl ⟨rfl, e0⟩, World.grownBy.refl _ _⟩
  · have hr : RowIs w g cur 47 := hh
    refine (markTry_row g n cap s cur w hn hs1 hs9 (by rw [hsz]; exact Nat.mul_le_mul_right _ hc) hr).mono ?_
    rintro e w' ⟨rfl, ⟨C, hr', hM⟩, hb⟩
    exact ⟨rfl, .inr ⟨g, cap, C, rfl, hr', hM⟩, hb⟩
end Go.Proofs.Ytdfjhnfidbkdpaa
