/- laws.markStringS, laws.heldStringS: a row of 1 cells an element. -/
import Derived.Test.YtoikjamafglilaaGMkT
namespace Go.Proofs.Ytoikjamafglilaa
open Go.RowKit

def MCStr (C : Array Value) (o j : Nat) : Prop := C[o]? = some (.string (mt (j + 0)))
def MarkedStr (C : Array Value) (s n : Nat) : Prop := ∀ i, i < n → MCStr C (i) (s + i)
def MarksStr (w : World) (v : Value) (s n : Nat) : Prop := (v = .slice none 0 0 ∧ n = 0) ∨ ∃ g cap C, v = .slice (some ⟨g, 0, none⟩) n cap ∧ RowIs w g C 9 ∧ MarkedStr C s n
theorem MarksStr.keep {w w' : World} {v : Value} {s n : Nat} (h : MarksStr w v s n) (hb : Below w.heap.size w w') : MarksStr w' v s n :=
  h.imp_right fun ⟨g, cap, C, e, r, m⟩ => ⟨g, cap, C, e, r.keep hb, m⟩
theorem MarkedStr.set {C : Array Value} {s k j : Nat} (h : MarkedStr C s k) (hs : k + 0 < C.size) (hj : j = s + k) {V0 : Value} (e0 : V0 = .string (mt (j + 0))) : MarkedStr (C.setIfInBounds (k) (V0)) s (k + 1) := by
  intro i hi
  unfold MCStr
  by_cases e : i = k
  · subst e
    subst hj
    subst e0
    have s0 : i < C.size := by omega
    simp [s0]
  · have := h i (by omega)
    unfold MCStr at this
    simp only [Array.getElem?_setIfInBounds]
    repeat rw [if_neg (by omega)]
    exact this

set_option maxRecDepth 100000 in
set_option maxHeartbeats 4000000 in
theorem markStr_row (g n cap s : Nat) (C0 : Array Value) (w : World) (hn : n ≤ 1048576) (hs1 : 1 ≤ s) (hs9 : s ≤ 100000000) (hC : n ≤ C0.size) (hr : RowIs w g C0 9) :
    Calls Try.prog 13 #[.slice (some ⟨g, 0, none⟩) n cap, .int .i64 s] w fun e w' => e = .returned (.int .i64 ((s + n : Nat) : Int)) ∧ (∃ C, RowIs w' g C 9 ∧ MarkedStr C s n) ∧ w.grownBy w' (some g) := by
  have HR := hide hr
  clear hr
  go_enter Try.func13, Try.ntmps13
  go_wp2_with fail
  go_loopw [1, 5] (fun q i w' => ∃ (k j : Nat) (C : Array Value), k ≤ n ∧ i = .int .i64 k ∧ q = .int .i64 j ∧ 1 ≤ j ∧ j ≤ 200000000 ∧ Hid (j = s + k) ∧ Hid (RowIs w' g C 9) ∧ Hid (n ≤ C.size) ∧ Hid (MarkedStr C s k) ∧ Hid (w.grownBy w' (some g))) (fun _ i _ => n - (intOf i).toNat)
  case atStart => exact ⟨0, s, C0, Nat.zero_le _, rfl, rfl, hs1, by omega, hide (by omega), HR, hide hC, hide (fun i h => absurd h (Nat.not_lt_zero _)), hide (World.grownBy.refl _ _)⟩
  case round =>
    obtain ⟨k, j, C, hk, rfl, rfl, hj1, hj2, hj, hR, hCs, hM, hb⟩ := hrel
    by_cases hlt : k < n
    · have i0 : (0 : Int) ≤ (k : Int) := by omega
      have i1 : (k : Int) < (n : Int) := by omega
      have ej : j ≤ 109437184 := by have := unhide hj; omega
      have s9 : k + 0 < C.size := by have := unhide hCs; omega
      obtain ⟨X0, hX0⟩ : ∃ X, X = mt (j + 0) := ⟨_, rfl⟩
      have q0 : Hid (∀ w, Calls Try.prog 26 #[.int .i64 ((j : Int))] w fun e w' => e = .returned (.string X0) ∧ Below w.heap.size w w') := hide (fun w => by have := markText_any (j + 0) w (by omega) (by omega); rw [hX0]; rwa [show ((j + 0 : Nat) : Int) = (j : Int) by omega] at this)
      have stM := hide ((unhide hM).set (j := j) (V0 := .string X0) s9 (unhide hj) (by rw [hX0]))
      clear hX0
      have R0 := hR
      have B0 := hb
      clear hR hb hM
      go_wp2_with fail
      refine (unhide q0 _).mono ?_
      rintro e w1 ⟨rfl, hb0⟩
      have B0a := hide ((unhide B0).trans (gB (some g) hb0))
      have R0a := hide ((unhide R0).keep hb0)
      clear hb0 q0 R0 B0
      have f0 := (unhide R0a).froz (k)
      have g0 := (unhide R0a).cell (k)
      obtain ⟨D0, d0⟩ : ∃ D, (C)[k]? = some D := ⟨_, Array.getElem?_eq_getElem (by first | omega | (simp; omega))⟩
      rw [d0] at g0
      clear d0
      have R1 := hide ((unhide R0a).set (k) (.string X0))
      have B1 := hide ((unhide B0a).trans (gSet _ g (k) (.string X0)))
      clear R0a B0a
      go_wp2_with fail
      exact ⟨⟨k + 1, j + 1, _, by omega, by go_num, by go_num, by omega, by omega, hide (by have := unhide hj; omega), R1, hide (by simp; exact unhide hCs), stM, B1⟩, by simp [intOf]; omega⟩
    · have e : k = n := by omega
      have ej := hide (show j = s + n by rw [← e]; exact unhide hj)
      go_wp2_with fail
      go_ret
      exact ⟨by rw [unhide ej]; rfl, ⟨C, unhide hR, by rw [← e]; exact unhide hM⟩, unhide hb⟩

theorem markStr_own (v : Value) (n s : Nat) (xs : List Value) (base : Nat) (w : World) (hn : n ≤ 1048576) (hs1 : 1 ≤ s) (hs9 : s ≤ 100000000) (h : w.ownsRow base 9 1 v n xs) :
    Calls Try.prog 13 #[v, .int .i64 s] w fun e w' => e = .returned (.int .i64 ((s + n : Nat) : Int)) ∧ MarksStr w' v s n ∧ w.grownBy w' v.ownBlock := by
  rcases h.2 with ⟨rfl, e0⟩ | ⟨g, cap, cur, rfl, _, hh, hc, _, hsz, _⟩
  · go_enter Try.func13, Try.ntmps13
    go_wp2_with fail
    go_loopw [1, 5] (fun q i w' => i = .int .i64 0 ∧ q = .int .i64 s ∧ w = w') (fun _ _ _ => 0)
    case atStart => exact ⟨rfl, rfl, rfl⟩
    case round =>
      obtain ⟨rfl, rfl, rfl⟩ := hrel
      go_wp2_with fail
      go_ret
      exact ⟨by rw [e0]; simp, .inl ⟨rfl, e0⟩, World.grownBy.refl _ _⟩
  · have hr : RowIs w g cur 9 := hh
    refine (markStr_row g n cap s cur w hn hs1 hs9 (by rw [hsz]; omega) hr).mono ?_
    rintro e w' ⟨rfl, ⟨C, hr', hM⟩, hb⟩
    exact ⟨rfl, .inr ⟨g, cap, C, rfl, hr', hM⟩, hb⟩
end Go.Proofs.Ytoikjamafglilaa
