/- laws.markRecoverEventS, laws.heldRecoverEventS: a row of 3 cells an element. -/
import Derived.Test.YtoikjamafglilaaGMkT
import Derived.Test.YtoikjamafglilaaKWr
namespace Go.Proofs.Ytoikjamafglilaa
open Go.RowKit

def MCRecoverEvent (C : Array Value) (o j : Nat) : Prop := C[o]? = some (.int .i64 ((j : Int))) ∧ C[o + 1]? = some (.int .i64 ((j : Int) + 1)) ∧ C[o + 2]? = some (.string (mt (j + 2)))
def MarkedRecoverEvent (C : Array Value) (s n : Nat) : Prop := ∀ i, i < n → MCRecoverEvent C (i * 3) (s + i * 3)
def MarksRecoverEvent (w : World) (v : Value) (s n : Nat) : Prop := (v = .slice none 0 0 ∧ n = 0) ∨ ∃ g cap C, v = .slice (some ⟨g, 0, none⟩) n cap ∧ RowIs w g C 45 ∧ MarkedRecoverEvent C s n
theorem MarksRecoverEvent.keep {w w' : World} {v : Value} {s n : Nat} (h : MarksRecoverEvent w v s n) (hb : Below w.heap.size w w') : MarksRecoverEvent w' v s n :=
  h.imp_right fun ⟨g, cap, C, e, r, m⟩ => ⟨g, cap, C, e, r.keep hb, m⟩
theorem MarkedRecoverEvent.set {C : Array Value} {s k j : Nat} (h : MarkedRecoverEvent C s k) (hs : k * 3 + 2 < C.size) (hj : j = s + k * 3) {V0 V1 V2 : Value} (e0 : V0 = .int .i64 ((j : Int))) (e1 : V1 = .int .i64 ((j : Int) + 1)) (e2 : V2 = .string (mt (j + 2))) : MarkedRecoverEvent (((C.setIfInBounds (k * 3) (V0)).setIfInBounds (k * 3 + 1) (V1)).setIfInBounds (k * 3 + 2) (V2)) s (k + 1) := by
  intro i hi
  unfold MCRecoverEvent
  by_cases e : i = k
  · subst e
    subst hj
    subst e0 e1 e2
    have s0 : i * 3 < C.size := by omega
    have s1 : i * 3 + 1 < C.size := by omega
    have s2 : i * 3 + 2 < C.size := by omega
    simp [s0, s1, s2]
  · have := h i (by omega)
    unfold MCRecoverEvent at this
    simp only [Array.getElem?_setIfInBounds]
    repeat rw [if_neg (by omega)]
    exact this

set_option maxRecDepth 100000 in
set_option maxHeartbeats 4000000 in
theorem markRecoverEvent_row (g n cap s : Nat) (C0 : Array Value) (w : World) (hn : n ≤ 1048576) (hs1 : 1 ≤ s) (hs9 : s ≤ 100000000) (hC : n * 3 ≤ C0.size) (hr : RowIs w g C0 45) :
    Calls Try.prog 14 #[.slice (some ⟨g, 0, none⟩) n cap, .int .i64 s] w fun e w' => e = .returned (.int .i64 ((s + n * 3 : Nat) : Int)) ∧ (∃ C, RowIs w' g C 45 ∧ MarkedRecoverEvent C s n) ∧ w.grownBy w' (some g) := by
  have HR := hide hr
  clear hr
  go_enter Try.func14, Try.ntmps14
  go_wp2_with fail
  go_loopw [1, 5] (fun q i w' => ∃ (k j : Nat) (C : Array Value), k ≤ n ∧ i = .int .i64 k ∧ q = .int .i64 j ∧ 1 ≤ j ∧ j ≤ 200000000 ∧ Hid (j = s + k * 3) ∧ Hid (RowIs w' g C 45) ∧ Hid (n * 3 ≤ C.size) ∧ Hid (MarkedRecoverEvent C s k) ∧ Hid (w.grownBy w' (some g))) (fun _ i _ => n - (intOf i).toNat)
  case atStart => exact ⟨0, s, C0, Nat.zero_le _, rfl, rfl, hs1, by omega, hide (by omega), HR, hide hC, hide (fun i h => absurd h (Nat.not_lt_zero _)), hide (World.grownBy.refl _ _)⟩
  case round =>
    obtain ⟨k, j, C, hk, rfl, rfl, hj1, hj2, hj, hR, hCs, hM, hb⟩ := hrel
    by_cases hlt : k < n
    · have i0 : (0 : Int) ≤ (k : Int) := by omega
      have i1 : (k : Int) < (n : Int) := by omega
      have ej : j ≤ 109437184 := by have := unhide hj; omega
      have s9 : k * 3 + 2 < C.size := by have := unhide hCs; omega
      obtain ⟨X2, hX2⟩ : ∃ X, X = mt (j + 2) := ⟨_, rfl⟩
      have q2 : Hid (∀ w, Calls Try.prog 26 #[.int .i64 ((j : Int) + 1 + 1)] w fun e w' => e = .returned (.string X2) ∧ Below w.heap.size w w') := hide (fun w => by have := markText_any (j + 2) w (by omega) (by omega); rw [hX2]; rwa [show ((j + 2 : Nat) : Int) = (j : Int) + 1 + 1 by omega] at this)
      have stM := hide ((unhide hM).set (j := j) (V0 := .int .i64 ((j : Int))) (V1 := .int .i64 ((j : Int) + 1)) (V2 := .string X2) s9 (unhide hj) rfl rfl (by rw [hX2]))
      clear hX2
      have R0 := hR
      have B0 := hb
      clear hR hb hM
      have f0 := (unhide R0).froz (k * 3)
      have g0 := (unhide R0).cell (k * 3)
      obtain ⟨D0, d0⟩ : ∃ D, (C)[k * 3]? = some D := ⟨_, Array.getElem?_eq_getElem (by first | omega | (simp; omega))⟩
      rw [d0] at g0
      clear d0
      have f1 := (unhide R0).froz (k * 3 + 1)
      have g1 := (unhide R0).cell (k * 3 + 1)
      obtain ⟨D1, d1⟩ : ∃ D, (C)[k * 3 + 1]? = some D := ⟨_, Array.getElem?_eq_getElem (by first | omega | (simp; omega))⟩
      rw [d1] at g1
      clear d1
      have R2 := hide (((unhide R0).set (k * 3) (.int .i64 ((j : Int)))).set (k * 3 + 1) (.int .i64 ((j : Int) + 1)))
      have B2 := hide (((unhide B0).trans (gSet _ g (k * 3) (.int .i64 ((j : Int))))).trans (gSet _ g (k * 3 + 1) (.int .i64 ((j : Int) + 1))))
      clear R0 B0
      go_wp2_with fail
      refine (unhide q2 _).mono ?_
      rintro e w3 ⟨rfl, hb2⟩
      have B2a := hide ((unhide B2).trans (gB (some g) hb2))
      have R2a := hide ((unhide R2).keep hb2)
      clear hb2 q2 R2 B2
      have f2 := (unhide R2a).froz (k * 3 + 2)
      have g2 := (unhide R2a).cell (k * 3 + 2)
      obtain ⟨D2, d2⟩ : ∃ D, (((C.setIfInBounds (k * 3) (.int .i64 ((j : Int)))).setIfInBounds (k * 3 + 1) (.int .i64 ((j : Int) + 1))))[k * 3 + 2]? = some D := ⟨_, Array.getElem?_eq_getElem (by first | omega | (simp; omega))⟩
      rw [d2] at g2
      clear d2
      have R3 := hide ((unhide R2a).set (k * 3 + 2) (.string X2))
      have B3 := hide ((unhide B2a).trans (gSet _ g (k * 3 + 2) (.string X2)))
      clear R2a B2a
      go_wp2_with fail
      exact ⟨⟨k + 1, j + 3, _, by omega, by go_num, by go_num, by omega, by omega, hide (by have := unhide hj; omega), R3, hide (by simp; exact unhide hCs), stM, B3⟩, by simp [intOf]; omega⟩
    · have e : k = n := by omega
      have ej := hide (show j = s + n * 3 by rw [← e]; exact unhide hj)
      go_wp2_with fail
      go_ret
      exact ⟨by rw [unhide ej]; rfl, ⟨C, unhide hR, by rw [← e]; exact unhide hM⟩, unhide hb⟩

theorem markRecoverEvent_own (v : Value) (n s : Nat) (xs : List Value) (base : Nat) (w : World) (hn : n ≤ 1048576) (hs1 : 1 ≤ s) (hs9 : s ≤ 100000000) (h : w.ownsRow base 45 3 v n xs) :
    Calls Try.prog 14 #[v, .int .i64 s] w fun e w' => e = .returned (.int .i64 ((s + n * 3 : Nat) : Int)) ∧ MarksRecoverEvent w' v s n ∧ w.grownBy w' v.ownBlock := by
  rcases h.2 with ⟨rfl, e0⟩ | ⟨g, cap, cur, rfl, _, hh, hc, _, hsz, _⟩
  · go_enter Try.func14, Try.ntmps14
    go_wp2_with fail
    go_loopw [1, 5] (fun q i w' => i = .int .i64 0 ∧ q = .int .i64 s ∧ w = w') (fun _ _ _ => 0)
    case atStart => exact ⟨rfl, rfl, rfl⟩
    case round =>
      obtain ⟨rfl, rfl, rfl⟩ := hrel
      go_wp2_with fail
      go_ret
      exact ⟨by rw [e0]; simp, .inl ⟨rfl, e0⟩, World.grownBy.refl _ _⟩
  · have hr : RowIs w g cur 45 := hh
    refine (markRecoverEvent_row g n cap s cur w hn hs1 hs9 (by rw [hsz]; exact Nat.mul_le_mul_right _ hc) hr).mono ?_
    rintro e w' ⟨rfl, ⟨C, hr', hM⟩, hb⟩
    exact ⟨rfl, .inr ⟨g, cap, C, rfl, hr', hM⟩, hb⟩
end Go.Proofs.Ytoikjamafglilaa
