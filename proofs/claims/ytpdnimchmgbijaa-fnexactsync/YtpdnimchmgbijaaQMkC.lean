/- laws.markDirChangeS, laws.heldDirChangeS: a row of 9 cells an element. -/
import Derived.Test.YtpdnimchmgbijaaQMkT
namespace Go.Proofs.Ytpdnimchmgbijaa
open Go.RowKit

def MCC (C : Array Value) (o j : Nat) : Prop := C[o]? = some (.int .i64 ((j : Int))) ∧ C[o + 1]? = some (.int .i64 ((j : Int) + 1)) ∧ C[o + 2]? = some (.int .i64 ((j : Int) + 1 + 1)) ∧ C[o + 3]? = some (.int .i64 ((j : Int) + 1 + 1 + 1)) ∧ C[o + 4]? = some (.int .i64 ((j : Int) + 1 + 1 + 1 + 1)) ∧ C[o + 5]? = some (.string (mt (j + 5))) ∧ C[o + 6]? = some (.string (mt (j + 6))) ∧ C[o + 7]? = some (.string (mt (j + 7))) ∧ C[o + 8]? = some (.string (mt (j + 8)))
def MarkedC (C : Array Value) (s n : Nat) : Prop := ∀ i, i < n → MCC C (i * 9) (s + i * 9)
def MarksC (w : World) (v : Value) (s n : Nat) : Prop := (v = .slice none 0 0 ∧ n = 0) ∨ ∃ g cap C, v = .slice (some ⟨g, 0, none⟩) n cap ∧ RowIs w g C 46 ∧ MarkedC C s n
theorem MarksC.keep {w w' : World} {v : Value} {s n : Nat} (h : MarksC w v s n) (hb : Below w.heap.size w w') : MarksC w' v s n :=
  h.imp_right fun ⟨g, cap, C, e, r, m⟩ => ⟨g, cap, C, e, r.keep hb, m⟩
theorem MarkedC.set {C : Array Value} {s k j : Nat} (h : MarkedC C s k) (hs : k * 9 + 8 < C.size) (hj : j = s + k * 9) {V0 V1 V2 V3 V4 V5 V6 V7 V8 : Value} (e0 : V0 = .int .i64 ((j : Int))) (e1 : V1 = .int .i64 ((j : Int) + 1)) (e2 : V2 = .int .i64 ((j : Int) + 1 + 1)) (e3 : V3 = .int .i64 ((j : Int) + 1 + 1 + 1)) (e4 : V4 = .int .i64 ((j : Int) + 1 + 1 + 1 + 1)) (e5 : V5 = .string (mt (j + 5))) (e6 : V6 = .string (mt (j + 6))) (e7 : V7 = .string (mt (j + 7))) (e8 : V8 = .string (mt (j + 8))) : MarkedC (((((((((C.setIfInBounds (k * 9) (V0)).setIfInBounds (k * 9 + 1) (V1)).setIfInBounds (k * 9 + 2) (V2)).setIfInBounds (k * 9 + 3) (V3)).setIfInBounds (k * 9 + 4) (V4)).setIfInBounds (k * 9 + 5) (V5)).setIfInBounds (k * 9 + 6) (V6)).setIfInBounds (k * 9 + 7) (V7)).setIfInBounds (k * 9 + 8) (V8)) s (k + 1) := by
  intro i hi
  unfold MCC
  by_cases e : i = k
  · subst e
    subst hj
    subst e0 e1 e2 e3 e4 e5 e6 e7 e8
    have s0 : i * 9 < C.size := by omega
    have s1 : i * 9 + 1 < C.size := by omega
    have s2 : i * 9 + 2 < C.size := by omega
    have s3 : i * 9 + 3 < C.size := by omega
    have s4 : i * 9 + 4 < C.size := by omega
    have s5 : i * 9 + 5 < C.size := by omega
    have s6 : i * 9 + 6 < C.size := by omega
    have s7 : i * 9 + 7 < C.size := by omega
    have s8 : i * 9 + 8 < C.size := by omega
    simp [s0, s1, s2, s3, s4, s5, s6, s7, s8]
  · have := h i (by omega)
    unfold MCC at this
    simp only [Array.getElem?_setIfInBounds]
    repeat rw [if_neg (by omega)]
    exact this

set_option maxRecDepth 100000 in
set_option maxHeartbeats 4000000 in
theorem markC_row (g n cap s : Nat) (C0 : Array Value) (w : World) (hn : n ≤ 1048576) (hs1 : 1 ≤ s) (hs9 : s ≤ 100000000) (hC : n * 9 ≤ C0.size) (hr : RowIs w g C0 46) :
    Calls Try.prog 9 #[.slice (some ⟨g, 0, none⟩) n cap, .int .i64 s] w fun e w' => e = .returned (.int .i64 ((s + n * 9 : Nat) : Int)) ∧ (∃ C, RowIs w' g C 46 ∧ MarkedC C s n) ∧ w.grownBy w' (some g) := by
  have HR := hide hr
  clear hr
  go_enter Try.func9, Try.ntmps9
  go_wp2_with fail
  go_loopw [1, 5] (fun q i w' => ∃ (k j : Nat) (C : Array Value), k ≤ n ∧ i = .int .i64 k ∧ q = .int .i64 j ∧ 1 ≤ j ∧ j ≤ 200000000 ∧ Hid (j = s + k * 9) ∧ Hid (RowIs w' g C 46) ∧ Hid (n * 9 ≤ C.size) ∧ Hid (MarkedC C s k) ∧ Hid (w.grownBy w' (some g))) (fun _ i _ => n - (intOf i).toNat)
  case atStart => exact ⟨0, s, C0, Nat.zero_le _, rfl, rfl, hs1, by omega, hide (by omega), HR, hide hC, hide (fun i h => absurd h (Nat.not_lt_zero _)), hide (World.grownBy.refl _ _)⟩
  case round =>
    obtain ⟨k, j, C, hk, rfl, rfl, hj1, hj2, hj, hR, hCs, hM, hb⟩ := hrel
    by_cases hlt : k < n
    · have i0 : (0 : Int) ≤ (k : Int) := by omega
      have i1 : (k : Int) < (n : Int) := by omega
      have ej : j ≤ 109437184 := by have := unhide hj; omega
      have s9 : k * 9 + 8 < C.size := by have := unhide hCs; omega
      obtain ⟨X5, hX5⟩ : ∃ X, X = mt (j + 5) := ⟨_, rfl⟩
      have q5 : Hid (∀ w, Calls Try.prog 23 #[.int .i64 ((j : Int) + 1 + 1 + 1 + 1 + 1)] w fun e w' => e = .returned (.string X5) ∧ Below w.heap.size w w') := hide (fun w => by have := markText_any (j + 5) w (by omega) (by omega); rw [hX5]; rwa [show ((j + 5 : Nat) : Int) = (j : Int) + 1 + 1 + 1 + 1 + 1 by omega] at this)
      obtain ⟨X6, hX6⟩ : ∃ X, X = mt (j + 6) := ⟨_, rfl⟩
      have q6 : Hid (∀ w, Calls Try.prog 23 #[.int .i64 ((j : Int) + 1 + 1 + 1 + 1 + 1 + 1)] w fun e w' => e = .returned (.string X6) ∧ Below w.heap.size w w') := hide (fun w => by have := markText_any (j + 6) w (by omega) (by omega); rw [hX6]; rwa [show ((j + 6 : Nat) : Int) = (j : Int) + 1 + 1 + 1 + 1 + 1 + 1 by omega] at this)
      obtain ⟨X7, hX7⟩ : ∃ X, X = mt (j + 7) := ⟨_, rfl⟩
      have q7 : Hid (∀ w, Calls Try.prog 23 #[.int .i64 ((j : Int) + 1 + 1 + 1 + 1 + 1 + 1 + 1)] w fun e w' => e = .returned (.string X7) ∧ Below w.heap.size w w') := hide (fun w => by have := markText_any (j + 7) w (by omega) (by omega); rw [hX7]; rwa [show ((j + 7 : Nat) : Int) = (j : Int) + 1 + 1 + 1 + 1 + 1 + 1 + 1 by omega] at this)
      obtain ⟨X8, hX8⟩ : ∃ X, X = mt (j + 8) := ⟨_, rfl⟩
      have q8 : Hid (∀ w, Calls Try.prog 23 #[.int .i64 ((j : Int) + 1 + 1 + 1 + 1 + 1 + 1 + 1 + 1)] w fun e w' => e = .returned (.string X8) ∧ Below w.heap.size w w') := hide (fun w => by have := markText_any (j + 8) w (by omega) (by omega); rw [hX8]; rwa [show ((j + 8 : Nat) : Int) = (j : Int) + 1 + 1 + 1 + 1 + 1 + 1 + 1 + 1 by omega] at this)
      have stM := hide ((unhide hM).set (j := j) (V0 := .int .i64 ((j : Int))) (V1 := .int .i64 ((j : Int) + 1)) (V2 := .int .i64 ((j : Int) + 1 + 1)) (V3 := .int .i64 ((j : Int) + 1 + 1 + 1)) (V4 := .int .i64 ((j : Int) + 1 + 1 + 1 + 1)) (V5 := .string X5) (V6 := .string X6) (V7 := .string X7) (V8 := .string X8) s9 (unhide hj) rfl rfl rfl rfl rfl (by rw [hX5]) (by rw [hX6]) (by rw [hX7]) (by rw [hX8]))
      clear hX5 hX6 hX7 hX8
      have R0 := hR
      have B0 := hb
      clear hR hb hM
      have f0 := (unhide R0).froz (k * 9)
      have g0 := (unhide R0).cell (k * 9)
      obtain ⟨D0, d0⟩ : ∃ D, (C)[k * 9]? = some D := ⟨_, Array.getElem?_eq_getElem (by first | omega | (simp; omega))⟩
      rw [d0] at g0
      clear d0
      have f1 := (unhide R0).froz (k * 9 + 1)
      have g1 := (unhide R0).cell (k * 9 + 1)
      obtain ⟨D1, d1⟩ : ∃ D, (C)[k * 9 + 1]? = some D := ⟨_, Array.getElem?_eq_getElem (by first | omega | (simp; omega))⟩
      rw [d1] at g1
      clear d1
      have f2 := (unhide R0).froz (k * 9 + 2)
      have g2 := (unhide R0).cell (k * 9 + 2)
      obtain ⟨D2, d2⟩ : ∃ D, (C)[k * 9 + 2]? = some D := ⟨_, Array.getElem?_eq_getElem (by first | omega | (simp; omega))⟩
      rw [d2] at g2
      clear d2
      have f3 := (unhide R0).froz (k * 9 + 3)
      have g3 := (unhide R0).cell (k * 9 + 3)
      obtain ⟨D3, d3⟩ : ∃ D, (C)[k * 9 + 3]? = some D := ⟨_, Array.getElem?_eq_getElem (by first | omega | (simp; omega))⟩
      rw [d3] at g3
      clear d3
      have f4 := (unhide R0).froz (k * 9 + 4)
      have g4 := (unhide R0).cell (k * 9 + 4)
      obtain ⟨D4, d4⟩ : ∃ D, (C)[k * 9 + 4]? = some D := ⟨_, Array.getElem?_eq_getElem (by first | omega | (simp; omega))⟩
      rw [d4] at g4
      clear d4
      have R5 := hide ((((((unhide R0).set (k * 9) (.int .i64 ((j : Int)))).set (k * 9 + 1) (.int .i64 ((j : Int) + 1))).set (k * 9 + 2) (.int .i64 ((j : Int) + 1 + 1))).set (k * 9 + 3) (.int .i64 ((j : Int) + 1 + 1 + 1))).set (k * 9 + 4) (.int .i64 ((j : Int) + 1 + 1 + 1 + 1)))
      have B5 := hide ((((((unhide B0).trans (gSet _ g (k * 9) (.int .i64 ((j : Int))))).trans (gSet _ g (k * 9 + 1) (.int .i64 ((j : Int) + 1)))).trans (gSet _ g (k * 9 + 2) (.int .i64 ((j : Int) + 1 + 1)))).trans (gSet _ g (k * 9 + 3) (.int .i64 ((j : Int) + 1 + 1 + 1)))).trans (gSet _ g (k * 9 + 4) (.int .i64 ((j : Int) + 1 + 1 + 1 + 1))))
      clear R0 B0
      go_wp2_with fail
      refine (unhide q5 _).mono ?_
      rintro e w6 ⟨rfl, hb5⟩
      have B5a := hide ((unhide B5).trans (gB (some g) hb5))
      have R5a := hide ((unhide R5).keep hb5)
      clear hb5 q5 R5 B5
      have f5 := (unhide R5a).froz (k * 9 + 5)
      have g5 := (unhide R5a).cell (k * 9 + 5)
      obtain ⟨D5, d5⟩ : ∃ D, ((((((C.setIfInBounds (k * 9) (.int .i64 ((j : Int)))).setIfInBounds (k * 9 + 1) (.int .i64 ((j : Int) + 1))).setIfInBounds (k * 9 + 2) (.int .i64 ((j : Int) + 1 + 1))).setIfInBounds (k * 9 + 3) (.int .i64 ((j : Int) + 1 + 1 + 1))).setIfInBounds (k * 9 + 4) (.int .i64 ((j : Int) + 1 + 1 + 1 + 1))))[k * 9 + 5]? = some D := ⟨_, Array.getElem?_eq_getElem (by first | omega | (simp; omega))⟩
      rw [d5] at g5
      clear d5
      have R6 := hide ((unhide R5a).set (k * 9 + 5) (.string X5))
      have B6 := hide ((unhide B5a).trans (gSet _ g (k * 9 + 5) (.string X5)))
      clear R5a B5a
      go_wp2_with fail
      refine (unhide q6 _).mono ?_
      rintro e w7 ⟨rfl, hb6⟩
      have B6a := hide ((unhide B6).trans (gB (some g) hb6))
      have R6a := hide ((unhide R6).keep hb6)
      clear hb6 q6 R6 B6
      have f6 := (unhide R6a).froz (k * 9 + 5 + 1)
      have g6 := (unhide R6a).cell (k * 9 + 5 + 1)
      obtain ⟨D6, d6⟩ : ∃ D, (((((((C.setIfInBounds (k * 9) (.int .i64 ((j : Int)))).setIfInBounds (k * 9 + 1) (.int .i64 ((j : Int) + 1))).setIfInBounds (k * 9 + 2) (.int .i64 ((j : Int) + 1 + 1))).setIfInBounds (k * 9 + 3) (.int .i64 ((j : Int) + 1 + 1 + 1))).setIfInBounds (k * 9 + 4) (.int .i64 ((j : Int) + 1 + 1 + 1 + 1))).setIfInBounds (k * 9 + 5) (.string X5)))[k * 9 + 5 + 1]? = some D := ⟨_, Array.getElem?_eq_getElem (by first | omega | (simp; omega))⟩
      rw [d6] at g6
      clear d6
      have R7 := hide ((unhide R6a).set (k * 9 + 5 + 1) (.string X6))
      have B7 := hide ((unhide B6a).trans (gSet _ g (k * 9 + 5 + 1) (.string X6)))
      clear R6a B6a
      go_wp2_with fail
      refine (unhide q7 _).mono ?_
      rintro e w8 ⟨rfl, hb7⟩
      have B7a := hide ((unhide B7).trans (gB (some g) hb7))
      have R7a := hide ((unhide R7).keep hb7)
      clear hb7 q7 R7 B7
      have f7 := (unhide R7a).froz (k * 9 + 7)
      have g7 := (unhide R7a).cell (k * 9 + 7)
      obtain ⟨D7, d7⟩ : ∃ D, ((((((((C.setIfInBounds (k * 9) (.int .i64 ((j : Int)))).setIfInBounds (k * 9 + 1) (.int .i64 ((j : Int) + 1))).setIfInBounds (k * 9 + 2) (.int .i64 ((j : Int) + 1 + 1))).setIfInBounds (k * 9 + 3) (.int .i64 ((j : Int) + 1 + 1 + 1))).setIfInBounds (k * 9 + 4) (.int .i64 ((j : Int) + 1 + 1 + 1 + 1))).setIfInBounds (k * 9 + 5) (.string X5)).setIfInBounds (k * 9 + 5 + 1) (.string X6)))[k * 9 + 7]? = some D := ⟨_, Array.getElem?_eq_getElem (by first | omega | (simp; omega))⟩
      rw [d7] at g7
      clear d7
      have R8 := hide ((unhide R7a).set (k * 9 + 7) (.string X7))
      have B8 := hide ((unhide B7a).trans (gSet _ g (k * 9 + 7) (.string X7)))
      clear R7a B7a
      go_wp2_with fail
      refine (unhide q8 _).mono ?_
      rintro e w9 ⟨rfl, hb8⟩
      have B8a := hide ((unhide B8).trans (gB (some g) hb8))
      have R8a := hide ((unhide R8).keep hb8)
      clear hb8 q8 R8 B8
      have f8 := (unhide R8a).froz (k * 9 + 8)
      have g8 := (unhide R8a).cell (k * 9 + 8)
      obtain ⟨D8, d8⟩ : ∃ D, (((((((((C.setIfInBounds (k * 9) (.int .i64 ((j : Int)))).setIfInBounds (k * 9 + 1) (.int .i64 ((j : Int) + 1))).setIfInBounds (k * 9 + 2) (.int .i64 ((j : Int) + 1 + 1))).setIfInBounds (k * 9 + 3) (.int .i64 ((j : Int) + 1 + 1 + 1))).setIfInBounds (k * 9 + 4) (.int .i64 ((j : Int) + 1 + 1 + 1 + 1))).setIfInBounds (k * 9 + 5) (.string X5)).setIfInBounds (k * 9 + 5 + 1) (.string X6)).setIfInBounds (k * 9 + 7) (.string X7)))[k * 9 + 8]? = some D := ⟨_, Array.getElem?_eq_getElem (by first | omega | (simp; omega))⟩
      rw [d8] at g8
      clear d8
      have R9 := hide ((unhide R8a).set (k * 9 + 8) (.string X8))
      have B9 := hide ((unhide B8a).trans (gSet _ g (k * 9 + 8) (.string X8)))
      clear R8a B8a
      go_wp2_with fail
      exact ⟨⟨k + 1, j + 9, _, by omega, by go_num, by go_num, by omega, by omega, hide (by have := unhide hj; omega), R9, hide (by simp; exact unhide hCs), stM, B9⟩, by simp [intOf]; omega⟩
    · have e : k = n := by omega
      have ej := hide (show j = s + n * 9 by rw [← e]; exact unhide hj)
      go_wp2_with fail
      go_ret
      exact ⟨by rw [unhide ej]; rfl, ⟨C, unhide hR, by rw [← e]; exact unhide hM⟩, unhide hb⟩

set_option maxRecDepth 100000 in
set_option maxHeartbeats 4000000 in
theorem heldC_row (g n cap s : Nat) (C : Array Value) (w : World) (hn : n ≤ 1048576) (hs1 : 1 ≤ s) (hs9 : s ≤ 100000000) (hr : RowIs w g C 46) (hM : MarkedC C s n) :
    Calls Try.prog 10 #[.slice (some ⟨g, 0, none⟩) n cap, .int .i64 s] w fun e w' => e = .returned (.int .i64 ((s + n * 9 : Nat) : Int)) ∧ Below w.heap.size w w' := by
  have HR := hide hr
  have HM := hide hM
  clear hr hM
  go_enter Try.func10, Try.ntmps10
  go_wp2_with fail
  go_loopw [1, 5] (fun q i w' => ∃ (k j : Nat), k ≤ n ∧ i = .int .i64 k ∧ q = .int .i64 j ∧ 1 ≤ j ∧ j ≤ 200000000 ∧ Hid (j = s + k * 9) ∧ Hid (Below w.heap.size w w')) (fun _ i _ => n - (intOf i).toNat)
  case atStart => exact ⟨0, s, Nat.zero_le _, rfl, rfl, hs1, by omega, hide (by omega), hide (Below.refl _ _)⟩
  case round =>
    obtain ⟨k, j, hk, rfl, rfl, hj1, hj2, hj, hb⟩ := hrel
    by_cases hlt : k < n
    · have mk := unhide HM k hlt
      rw [← unhide hj] at mk
      unfold MCC at mk
      obtain ⟨m0, m1, m2, m3, m4, m5, m6, m7, m8⟩ := mk
      have i0 : (0 : Int) ≤ (k : Int) := by omega
      have i1 : (k : Int) < (n : Int) := by omega
      have ej : j ≤ 109437184 := by have := unhide hj; omega
      have R0 := (unhide HR).keep (unhide hb)
      have zr := R0.lt
      have c0 := R0.at m0
      have c1 := R0.at m1
      have c2 := R0.at m2
      have c3 := R0.at m3
      have c4 := R0.at m4
      have c5 := R0.at m5
      have c6 := R0.at m6
      have c7 := R0.at m7
      have c8 := R0.at m8
      clear R0 m0 m1 m2 m3 m4 m5 m6 m7 m8
      obtain ⟨X5, hX5⟩ : ∃ X, X = mt (j + 5) := ⟨_, rfl⟩
      have q5 : Hid (∀ w, Calls Try.prog 23 #[.int .i64 ((j : Int) + 1 + 1 + 1 + 1 + 1)] w fun e w' => e = .returned (.string X5) ∧ Below w.heap.size w w') := hide (fun w => by have := markText_any (j + 5) w (by omega) (by omega); rw [hX5]; rwa [show ((j + 5 : Nat) : Int) = (j : Int) + 1 + 1 + 1 + 1 + 1 by omega] at this)
      rw [← hX5] at c5
      clear hX5
      obtain ⟨X6, hX6⟩ : ∃ X, X = mt (j + 6) := ⟨_, rfl⟩
      have q6 : Hid (∀ w, Calls Try.prog 23 #[.int .i64 ((j : Int) + 1 + 1 + 1 + 1 + 1 + 1)] w fun e w' => e = .returned (.string X6) ∧ Below w.heap.size w w') := hide (fun w => by have := markText_any (j + 6) w (by omega) (by omega); rw [hX6]; rwa [show ((j + 6 : Nat) : Int) = (j : Int) + 1 + 1 + 1 + 1 + 1 + 1 by omega] at this)
      rw [← hX6] at c6
      clear hX6
      obtain ⟨X7, hX7⟩ : ∃ X, X = mt (j + 7) := ⟨_, rfl⟩
      have q7 : Hid (∀ w, Calls Try.prog 23 #[.int .i64 ((j : Int) + 1 + 1 + 1 + 1 + 1 + 1 + 1)] w fun e w' => e = .returned (.string X7) ∧ Below w.heap.size w w') := hide (fun w => by have := markText_any (j + 7) w (by omega) (by omega); rw [hX7]; rwa [show ((j + 7 : Nat) : Int) = (j : Int) + 1 + 1 + 1 + 1 + 1 + 1 + 1 by omega] at this)
      rw [← hX7] at c7
      clear hX7
      obtain ⟨X8, hX8⟩ : ∃ X, X = mt (j + 8) := ⟨_, rfl⟩
      have q8 : Hid (∀ w, Calls Try.prog 23 #[.int .i64 ((j : Int) + 1 + 1 + 1 + 1 + 1 + 1 + 1 + 1)] w fun e w' => e = .returned (.string X8) ∧ Below w.heap.size w w') := hide (fun w => by have := markText_any (j + 8) w (by omega) (by omega); rw [hX8]; rwa [show ((j + 8 : Nat) : Int) = (j : Int) + 1 + 1 + 1 + 1 + 1 + 1 + 1 + 1 by omega] at this)
      rw [← hX8] at c8
      clear hX8
      have B0 := hb
      clear hb
      have ne : Nonempty (Kept wr) := ⟨⟨wr, Below.refl _ _⟩⟩
      have e5 := kept_cell zr c5
      go_wp2_with fail
      refine wp_region_kept (by kernel_rfl) (by kernel_rfl) ?_
      repeat (first
        | go_big_quiet_step ((go_at_call 23; exact kept_call (unhide q5 _)))
        | quiet_step ((go_at_call 23; exact kept_call (unhide q5 _))))
      refine wpQuiet_nil ?_
      rintro _ ⟨q, rfl⟩
      clear ne e5 q5
      obtain ⟨w6, hb5⟩ := q
      replace c6 := cellB hb5 zr c6
      replace c7 := cellB hb5 zr c7
      replace c8 := cellB hb5 zr c8
      clear c0 c1 c2 c3 c4 c5
      replace zr := Nat.lt_of_lt_of_le zr hb5.size
      have B6 := hide (bTr (unhide B0) hb5)
      clear B0
      have ne : Nonempty (Kept w6) := ⟨⟨w6, Below.refl _ _⟩⟩
      have e6 := kept_cell zr c6
      go_wp2_with fail
      refine wp_region_kept (by kernel_rfl) (by kernel_rfl) ?_
      repeat (first
        | go_big_quiet_step ((go_at_call 23; exact kept_call (unhide q6 _)))
        | quiet_step ((go_at_call 23; exact kept_call (unhide q6 _))))
      refine wpQuiet_nil ?_
      rintro _ ⟨q, rfl⟩
      clear ne e6 q6
      obtain ⟨w7, hb6⟩ := q
      replace c7 := cellB hb6 zr c7
      replace c8 := cellB hb6 zr c8
      clear c6
      replace zr := Nat.lt_of_lt_of_le zr hb6.size
      have B7 := hide (bTr (unhide B6) hb6)
      clear B6
      have ne : Nonempty (Kept w7) := ⟨⟨w7, Below.refl _ _⟩⟩
      have e7 := kept_cell zr c7
      go_wp2_with fail
      refine wp_region_kept (by kernel_rfl) (by kernel_rfl) ?_
      repeat (first
        | go_big_quiet_step ((go_at_call 23; exact kept_call (unhide q7 _)))
        | quiet_step ((go_at_call 23; exact kept_call (unhide q7 _))))
      refine wpQuiet_nil ?_
      rintro _ ⟨q, rfl⟩
      clear ne e7 q7
      obtain ⟨w8, hb7⟩ := q
      replace c8 := cellB hb7 zr c8
      clear c7
      replace zr := Nat.lt_of_lt_of_le zr hb7.size
      have B8 := hide (bTr (unhide B7) hb7)
      clear B7
      have ne : Nonempty (Kept w8) := ⟨⟨w8, Below.refl _ _⟩⟩
      have e8 := kept_cell zr c8
      go_wp2_with fail
      refine wp_region_kept (by kernel_rfl) (by kernel_rfl) ?_
      repeat (first
        | go_big_quiet_step ((go_at_call 23; exact kept_call (unhide q8 _)))
        | quiet_step ((go_at_call 23; exact kept_call (unhide q8 _))))
      refine wpQuiet_nil ?_
      rintro _ ⟨q, rfl⟩
      clear ne e8 q8
      obtain ⟨w9, hb8⟩ := q
      clear c8
      replace zr := Nat.lt_of_lt_of_le zr hb8.size
      have B9 := hide (bTr (unhide B8) hb8)
      clear B8
      go_wp2_with fail
      exact ⟨⟨k + 1, j + 9, by omega, by go_num, by go_num, by omega, by omega, hide (by have := unhide hj; omega), B9⟩, by simp [intOf]; omega⟩
    · have e : k = n := by omega
      have ej := hide (show j = s + n * 9 by rw [← e]; exact unhide hj)
      go_wp2_with fail
      go_ret
      exact ⟨by rw [unhide ej]; rfl, unhide hb⟩

theorem markC_own (v : Value) (n s : Nat) (xs : List Value) (base : Nat) (w : World) (hn : n ≤ 1048576) (hs1 : 1 ≤ s) (hs9 : s ≤ 100000000) (h : w.ownsRow base 46 9 v n xs) :
    Calls Try.prog 9 #[v, .int .i64 s] w fun e w' => e = .returned (.int .i64 ((s + n * 9 : Nat) : Int)) ∧ MarksC w' v s n ∧ w.grownBy w' v.ownBlock := by
  rcases h.2 with ⟨rfl, e0⟩ | ⟨g, cap, cur, rfl, _, hh, hc, _, hsz, _⟩
  · go_enter Try.func9, Try.ntmps9
    go_wp2_with fail
    go_loopw [1, 5] (fun q i w' => i = .int .i64 0 ∧ q = .int .i64 s ∧ w = w') (fun _ _ _ => 0)
    case atStart => exact ⟨rfl, rfl, rfl⟩
    case round =>
      obtain ⟨rfl, rfl, rfl⟩ := hrel
      go_wp2_with fail
      go_ret
      exact ⟨by rw [e0]; simp, .inl ⟨rfl, e0⟩, World.grownBy.refl _ _⟩
  · have hr : RowIs w g cur 46 := hh
    refine (markC_row g n cap s cur w hn hs1 hs9 (by rw [hsz]; exact Nat.mul_le_mul_right _ hc) hr).mono ?_
    rintro e w' ⟨rfl, ⟨C, hr', hM⟩, hb⟩
    exact ⟨rfl, .inr ⟨g, cap, C, rfl, hr', hM⟩, hb⟩
theorem heldC_own (v : Value) (n s : Nat) (w : World) (hn : n ≤ 1048576) (hs1 : 1 ≤ s) (hs9 : s ≤ 100000000) (h : MarksC w v s n) :
    Calls Try.prog 10 #[v, .int .i64 s] w fun e w' => e = .returned (.int .i64 ((s + n * 9 : Nat) : Int)) ∧ Below w.heap.size w w' := by
  rcases h with ⟨rfl, rfl⟩ | ⟨g, cap, C, rfl, hr, hM⟩
  · go_enter Try.func10, Try.ntmps10
    go_wp2_with fail
    go_loop [1, 5] (fun q i => i = .int .i64 0 ∧ q = .int .i64 s) (fun _ _ => 0)
    case atStart => exact ⟨rfl, rfl⟩
    case round =>
      obtain ⟨rfl, rfl⟩ := hrel
      go_wp2_with fail
      go_ret
      exact ⟨by simp, Below.refl _ _⟩
  · exact heldC_row g n cap s C w hn hs1 hs9 hr hM
end Go.Proofs.Ytpdnimchmgbijaa
