/- YMk, YMp, one behind the other. -/
import Derived.Test.YtcajlndbaipcaaaJ27
import Derived.Test.YtcajlndbaipcaaaJ23
import Derived.Maps.Range
/- laws.markExprS, laws.heldExprS: a row of 7 cells an element. -/
namespace Go.Proofs.Ytcajlndbaipcaaa
open Go.RowKit

def MCExpr (C : Array Value) (o j : Nat) : Prop := C[o]? = some (.int .i64 ((j : Int))) ∧ C[o + 1]? = some (.string (mt (j + 1))) ∧ C[o + 2]? = some (.int .i64 ((j : Int) + 1 + 1)) ∧ C[o + 3]? = some (.int .i64 ((j : Int) + 1 + 1 + 1)) ∧ C[o + 4]? = some (.string (mt (j + 4))) ∧ C[o + 5]? = some (.string (mt (j + 5))) ∧ C[o + 6]? = some (.int .i64 ((j : Int) + 1 + 1 + 1 + 1 + 1 + 1))
def MarkedExpr (C : Array Value) (s n : Nat) : Prop := ∀ i, i < n → MCExpr C (i * 7) (s + i * 7)
def MarksExpr (w : World) (v : Value) (s n : Nat) : Prop := (v = .slice none 0 0 ∧ n = 0) ∨ ∃ g cap C, v = .slice (some ⟨g, 0, none⟩) n cap ∧ RowIs w g C 56 ∧ MarkedExpr C s n
theorem MarksExpr.keep {w w' : World} {v : Value} {s n : Nat} (h : MarksExpr w v s n) (hb : Below w.heap.size w w') : MarksExpr w' v s n :=
  h.imp_right fun ⟨g, cap, C, e, r, m⟩ => ⟨g, cap, C, e, r.keep hb, m⟩
theorem MarkedExpr.set {C : Array Value} {s k j : Nat} (h : MarkedExpr C s k) (hs : k * 7 + 6 < C.size) (hj : j = s + k * 7) {V0 V1 V2 V3 V4 V5 V6 : Value} (e0 : V0 = .int .i64 ((j : Int))) (e1 : V1 = .string (mt (j + 1))) (e2 : V2 = .int .i64 ((j : Int) + 1 + 1)) (e3 : V3 = .int .i64 ((j : Int) + 1 + 1 + 1)) (e4 : V4 = .string (mt (j + 4))) (e5 : V5 = .string (mt (j + 5))) (e6 : V6 = .int .i64 ((j : Int) + 1 + 1 + 1 + 1 + 1 + 1)) : MarkedExpr (((((((C.setIfInBounds (k * 7) (V0)).setIfInBounds (k * 7 + 1) (V1)).setIfInBounds (k * 7 + 2) (V2)).setIfInBounds (k * 7 + 3) (V3)).setIfInBounds (k * 7 + 4) (V4)).setIfInBounds (k * 7 + 5) (V5)).setIfInBounds (k * 7 + 6) (V6)) s (k + 1) := by
  intro i hi
  unfold MCExpr
  by_cases e : i = k
  · subst e
    subst hj
    subst e0 e1 e2 e3 e4 e5 e6
    have s0 : i * 7 < C.size := by omega
    have s1 : i * 7 + 1 < C.size := by omega
    have s2 : i * 7 + 2 < C.size := by omega
    have s3 : i * 7 + 3 < C.size := by omega
    have s4 : i * 7 + 4 < C.size := by omega
    have s5 : i * 7 + 5 < C.size := by omega
    have s6 : i * 7 + 6 < C.size := by omega
    simp [s0, s1, s2, s3, s4, s5, s6]
  · have := h i (by omega)
    unfold MCExpr at this
    simp only [Array.getElem?_setIfInBounds]
    repeat rw [if_neg (by omega)]
    exact this

set_option maxRecDepth 100000 in
set_option maxHeartbeats 4000000 in
theorem markExpr_row (g n cap s : Nat) (C0 : Array Value) (w : World) (hn : n ≤ 1048576) (hs1 : 1 ≤ s) (hs9 : s ≤ 100000000) (hC : n * 7 ≤ C0.size) (hr : RowIs w g C0 56) :
    Calls Try.prog 30 #[.slice (some ⟨g, 0, none⟩) n cap, .int .i64 s] w fun e w' => e = .returned (.int .i64 ((s + n * 7 : Nat) : Int)) ∧ (∃ C, RowIs w' g C 56 ∧ MarkedExpr C s n) ∧ w.grownBy w' (some g) := by
  have HR := hide hr
  clear hr
  go_enter Try.func30, Try.ntmps30
  go_wp2_with fail
  go_loopw [1, 5] (fun q i w' => ∃ (k j : Nat) (C : Array Value), k ≤ n ∧ i = .int .i64 k ∧ q = .int .i64 j ∧ 1 ≤ j ∧ j ≤ 200000000 ∧ Hid (j = s + k * 7) ∧ Hid (RowIs w' g C 56) ∧ Hid (n * 7 ≤ C.size) ∧ Hid (MarkedExpr C s k) ∧ Hid (w.grownBy w' (some g))) (fun _ i _ => n - (intOf i).toNat)
  case atStart => exact ⟨0, s, C0, Nat.zero_le _, rfl, rfl, hs1, by omega, hide (by omega), HR, hide hC, hide (fun i h => absurd h (Nat.not_lt_zero _)), hide (World.grownBy.refl _ _)⟩
  case round =>
    obtain ⟨k, j, C, hk, rfl, rfl, hj1, hj2, hj, hR, hCs, hM, hb⟩ := hrel
    by_cases hlt : k < n
    · have i0 : (0 : Int) ≤ (k : Int) := by omega
      have i1 : (k : Int) < (n : Int) := by omega
      have ej : j ≤ 109437184 := by have := unhide hj; omega
      have s9 : k * 7 + 6 < C.size := by have := unhide hCs; omega
      obtain ⟨X1, hX1⟩ : ∃ X, X = mt (j + 1) := ⟨_, rfl⟩
      have q1 : Hid (∀ w, Calls Try.prog 49 #[.int .i64 ((j : Int) + 1)] w fun e w' => e = .returned (.string X1) ∧ Below w.heap.size w w') := hide (fun w => by have := markText_any (j + 1) w (by omega) (by omega); rw [hX1]; rwa [show ((j + 1 : Nat) : Int) = (j : Int) + 1 by omega] at this)
      obtain ⟨X4, hX4⟩ : ∃ X, X = mt (j + 4) := ⟨_, rfl⟩
      have q4 : Hid (∀ w, Calls Try.prog 49 #[.int .i64 ((j : Int) + 1 + 1 + 1 + 1)] w fun e w' => e = .returned (.string X4) ∧ Below w.heap.size w w') := hide (fun w => by have := markText_any (j + 4) w (by omega) (by omega); rw [hX4]; rwa [show ((j + 4 : Nat) : Int) = (j : Int) + 1 + 1 + 1 + 1 by omega] at this)
      obtain ⟨X5, hX5⟩ : ∃ X, X = mt (j + 5) := ⟨_, rfl⟩
      have q5 : Hid (∀ w, Calls Try.prog 49 #[.int .i64 ((j : Int) + 1 + 1 + 1 + 1 + 1)] w fun e w' => e = .returned (.string X5) ∧ Below w.heap.size w w') := hide (fun w => by have := markText_any (j + 5) w (by omega) (by omega); rw [hX5]; rwa [show ((j + 5 : Nat) : Int) = (j : Int) + 1 + 1 + 1 + 1 + 1 by omega] at this)
      have stM := hide ((unhide hM).set (j := j) (V0 := .int .i64 ((j : Int))) (V1 := .string X1) (V2 := .int .i64 ((j : Int) + 1 + 1)) (V3 := .int .i64 ((j : Int) + 1 + 1 + 1)) (V4 := .string X4) (V5 := .string X5) (V6 := .int .i64 ((j : Int) + 1 + 1 + 1 + 1 + 1 + 1)) s9 (unhide hj) rfl (by rw [hX1]) rfl rfl (by rw [hX4]) (by rw [hX5]) rfl)
      clear hX1 hX4 hX5
      have R0 := hR
      have B0 := hb
      clear hR hb hM
      have f0 := (unhide R0).froz (k * 7)
      have g0 := (unhide R0).cell (k * 7)
      obtain ⟨D0, d0⟩ : ∃ D, (C)[k * 7]? = some D := ⟨_, Array.getElem?_eq_getElem (by first | omega | (simp; omega))⟩
      rw [d0] at g0
      clear d0
      have R1 := hide ((unhide R0).set (k * 7) (.int .i64 ((j : Int))))
      have B1 := hide ((unhide B0).trans (gSet _ g (k * 7) (.int .i64 ((j : Int)))))
      clear R0 B0
      go_wp2_with fail
      refine (unhide q1 _).mono ?_
      rintro e w2 ⟨rfl, hb1⟩
      have B1a := hide ((unhide B1).trans (gB (some g) hb1))
      have R1a := hide ((unhide R1).keep hb1)
      clear hb1 q1 R1 B1
      have f1 := (unhide R1a).froz (k * 7 + 1)
      have g1 := (unhide R1a).cell (k * 7 + 1)
      obtain ⟨D1, d1⟩ : ∃ D, ((C.setIfInBounds (k * 7) (.int .i64 ((j : Int)))))[k * 7 + 1]? = some D := ⟨_, Array.getElem?_eq_getElem (by first | omega | (simp; omega))⟩
      rw [d1] at g1
      clear d1
      have f2 := (unhide R1a).froz (k * 7 + 2)
      have g2 := (unhide R1a).cell (k * 7 + 2)
      obtain ⟨D2, d2⟩ : ∃ D, ((C.setIfInBounds (k * 7) (.int .i64 ((j : Int)))))[k * 7 + 2]? = some D := ⟨_, Array.getElem?_eq_getElem (by first | omega | (simp; omega))⟩
      rw [d2] at g2
      clear d2
      have f3 := (unhide R1a).froz (k * 7 + 2 + 1)
      have g3 := (unhide R1a).cell (k * 7 + 2 + 1)
      obtain ⟨D3, d3⟩ : ∃ D, ((C.setIfInBounds (k * 7) (.int .i64 ((j : Int)))))[k * 7 + 2 + 1]? = some D := ⟨_, Array.getElem?_eq_getElem (by first | omega | (simp; omega))⟩
      rw [d3] at g3
      clear d3
      have R4 := hide ((((unhide R1a).set (k * 7 + 1) (.string X1)).set (k * 7 + 2) (.int .i64 ((j : Int) + 1 + 1))).set (k * 7 + 2 + 1) (.int .i64 ((j : Int) + 1 + 1 + 1)))
      have B4 := hide ((((unhide B1a).trans (gSet _ g (k * 7 + 1) (.string X1))).trans (gSet _ g (k * 7 + 2) (.int .i64 ((j : Int) + 1 + 1)))).trans (gSet _ g (k * 7 + 2 + 1) (.int .i64 ((j : Int) + 1 + 1 + 1))))
      clear R1a B1a
      go_wp2_with fail
      refine (unhide q4 _).mono ?_
      rintro e w5 ⟨rfl, hb4⟩
      have B4a := hide ((unhide B4).trans (gB (some g) hb4))
      have R4a := hide ((unhide R4).keep hb4)
      clear hb4 q4 R4 B4
      have f4 := (unhide R4a).froz (k * 7 + 2 + 2)
      have g4 := (unhide R4a).cell (k * 7 + 2 + 2)
      obtain ⟨D4, d4⟩ : ∃ D, (((((C.setIfInBounds (k * 7) (.int .i64 ((j : Int)))).setIfInBounds (k * 7 + 1) (.string X1)).setIfInBounds (k * 7 + 2) (.int .i64 ((j : Int) + 1 + 1))).setIfInBounds (k * 7 + 2 + 1) (.int .i64 ((j : Int) + 1 + 1 + 1))))[k * 7 + 2 + 2]? = some D := ⟨_, Array.getElem?_eq_getElem (by first | omega | (simp; omega))⟩
      rw [d4] at g4
      clear d4
      have R5 := hide ((unhide R4a).set (k * 7 + 2 + 2) (.string X4))
      have B5 := hide ((unhide B4a).trans (gSet _ g (k * 7 + 2 + 2) (.string X4)))
      clear R4a B4a
      go_wp2_with fail
      refine (unhide q5 _).mono ?_
      rintro e w6 ⟨rfl, hb5⟩
      have B5a := hide ((unhide B5).trans (gB (some g) hb5))
      have R5a := hide ((unhide R5).keep hb5)
      clear hb5 q5 R5 B5
      have f5 := (unhide R5a).froz (k * 7 + 2 + 3)
      have g5 := (unhide R5a).cell (k * 7 + 2 + 3)
      obtain ⟨D5, d5⟩ : ∃ D, ((((((C.setIfInBounds (k * 7) (.int .i64 ((j : Int)))).setIfInBounds (k * 7 + 1) (.string X1)).setIfInBounds (k * 7 + 2) (.int .i64 ((j : Int) + 1 + 1))).setIfInBounds (k * 7 + 2 + 1) (.int .i64 ((j : Int) + 1 + 1 + 1))).setIfInBounds (k * 7 + 2 + 2) (.string X4)))[k * 7 + 2 + 3]? = some D := ⟨_, Array.getElem?_eq_getElem (by first | omega | (simp; omega))⟩
      rw [d5] at g5
      clear d5
      have f6 := (unhide R5a).froz (k * 7 + 6)
      have g6 := (unhide R5a).cell (k * 7 + 6)
      obtain ⟨D6, d6⟩ : ∃ D, ((((((C.setIfInBounds (k * 7) (.int .i64 ((j : Int)))).setIfInBounds (k * 7 + 1) (.string X1)).setIfInBounds (k * 7 + 2) (.int .i64 ((j : Int) + 1 + 1))).setIfInBounds (k * 7 + 2 + 1) (.int .i64 ((j : Int) + 1 + 1 + 1))).setIfInBounds (k * 7 + 2 + 2) (.string X4)))[k * 7 + 6]? = some D := ⟨_, Array.getElem?_eq_getElem (by first | omega | (simp; omega))⟩
      rw [d6] at g6
      clear d6
      have R7 := hide (((unhide R5a).set (k * 7 + 2 + 3) (.string X5)).set (k * 7 + 6) (.int .i64 ((j : Int) + 1 + 1 + 1 + 1 + 1 + 1)))
      have B7 := hide (((unhide B5a).trans (gSet _ g (k * 7 + 2 + 3) (.string X5))).trans (gSet _ g (k * 7 + 6) (.int .i64 ((j : Int) + 1 + 1 + 1 + 1 + 1 + 1))))
      clear R5a B5a
      go_wp2_with fail
      exact ⟨⟨k + 1, j + 7, _, by omega, by go_num, by go_num, by omega, by omega, hide (by have := unhide hj; omega), R7, hide (by simp; exact unhide hCs), stM, B7⟩, by simp [intOf]; omega⟩
    · have e : k = n := by omega
      have ej := hide (show j = s + n * 7 by rw [← e]; exact unhide hj)
      go_wp2_with fail
      go_ret
      exact ⟨by rw [unhide ej]; rfl, ⟨C, unhide hR, by rw [← e]; exact unhide hM⟩, unhide hb⟩

set_option maxRecDepth 100000 in
set_option maxHeartbeats 4000000 in
theorem heldExpr_row (g n cap s : Nat) (C : Array Value) (w : World) (hn : n ≤ 1048576) (hs1 : 1 ≤ s) (hs9 : s ≤ 100000000) (hr : RowIs w g C 56) (hM : MarkedExpr C s n) :
    Calls Try.prog 31 #[.slice (some ⟨g, 0, none⟩) n cap, .int .i64 s] w fun e w' => e = .returned (.int .i64 ((s + n * 7 : Nat) : Int)) ∧ Below w.heap.size w w' := by
  have HR := hide hr
  have HM := hide hM
  clear hr hM
  go_enter Try.func31, Try.ntmps31
  go_wp2_with fail
  go_loopw [1, 5] (fun q i w' => ∃ (k j : Nat), k ≤ n ∧ i = .int .i64 k ∧ q = .int .i64 j ∧ 1 ≤ j ∧ j ≤ 200000000 ∧ Hid (j = s + k * 7) ∧ Hid (Below w.heap.size w w')) (fun _ i _ => n - (intOf i).toNat)
  case atStart => exact ⟨0, s, Nat.zero_le _, rfl, rfl, hs1, by omega, hide (by omega), hide (Below.refl _ _)⟩
  case round =>
    obtain ⟨k, j, hk, rfl, rfl, hj1, hj2, hj, hb⟩ := hrel
    by_cases hlt : k < n
    · have mk := unhide HM k hlt
      rw [← unhide hj] at mk
      unfold MCExpr at mk
      obtain ⟨m0, m1, m2, m3, m4, m5, m6⟩ := mk
      have i0 : (0 : Int) ≤ (k : Int) := by omega
      have i1 : (k : Int) < (n : Int) := by omega
      have ej : j ≤ 109437184 := by have := unhide hj; omega
      have R0 := (unhide HR).keep (unhide hb)
      have zr := R0.lt
      have c0 := R0.at m0
      have c1 := R0.at m1
      have c2 := R0.at m2
      have c3 := R0.at m3
      have c4 := R0.at m4
      have c5 := R0.at m5
      have c6 := R0.at m6
      clear R0 m0 m1 m2 m3 m4 m5 m6
      obtain ⟨X1, hX1⟩ : ∃ X, X = mt (j + 1) := ⟨_, rfl⟩
      have q1 : Hid (∀ w, Calls Try.prog 49 #[.int .i64 ((j : Int) + 1)] w fun e w' => e = .returned (.string X1) ∧ Below w.heap.size w w') := hide (fun w => by have := markText_any (j + 1) w (by omega) (by omega); rw [hX1]; rwa [show ((j + 1 : Nat) : Int) = (j : Int) + 1 by omega] at this)
      rw [← hX1] at c1
      clear hX1
      obtain ⟨X4, hX4⟩ : ∃ X, X = mt (j + 4) := ⟨_, rfl⟩
      have q4 : Hid (∀ w, Calls Try.prog 49 #[.int .i64 ((j : Int) + 1 + 1 + 1 + 1)] w fun e w' => e = .returned (.string X4) ∧ Below w.heap.size w w') := hide (fun w => by have := markText_any (j + 4) w (by omega) (by omega); rw [hX4]; rwa [show ((j + 4 : Nat) : Int) = (j : Int) + 1 + 1 + 1 + 1 by omega] at this)
      rw [← hX4] at c4
      clear hX4
      obtain ⟨X5, hX5⟩ : ∃ X, X = mt (j + 5) := ⟨_, rfl⟩
      have q5 : Hid (∀ w, Calls Try.prog 49 #[.int .i64 ((j : Int) + 1 + 1 + 1 + 1 + 1)] w fun e w' => e = .returned (.string X5) ∧ Below w.heap.size w w') := hide (fun w => by have := markText_any (j + 5) w (by omega) (by omega); rw [hX5]; rwa [show ((j + 5 : Nat) : Int) = (j : Int) + 1 + 1 + 1 + 1 + 1 by omega] at this)
      rw [← hX5] at c5
      clear hX5
      have B0 := hb
      clear hb
      have ne : Nonempty (Kept wr) := ⟨⟨wr, Below.refl _ _⟩⟩
      have e1 := kept_cell zr c1
      go_wp2_with fail
      refine wp_region_kept (by kernel_rfl) (by kernel_rfl) ?_
      repeat (first
        | go_big_quiet_step ((go_at_call 49; exact kept_call (unhide q1 _)))
        | quiet_step ((go_at_call 49; exact kept_call (unhide q1 _))))
      refine wpQuiet_nil ?_
      rintro _ ⟨q, rfl⟩
      clear ne e1 q1
      obtain ⟨w2, hb1⟩ := q
      replace c2 := cellB hb1 zr c2
      replace c3 := cellB hb1 zr c3
      replace c4 := cellB hb1 zr c4
      replace c5 := cellB hb1 zr c5
      replace c6 := cellB hb1 zr c6
      clear c0 c1
      replace zr := Nat.lt_of_lt_of_le zr hb1.size
      have B2 := hide (bTr (unhide B0) hb1)
      clear B0
      have ne : Nonempty (Kept w2) := ⟨⟨w2, Below.refl _ _⟩⟩
      have e4 := kept_cell zr c4
      go_wp2_with fail
      refine wp_region_kept (by kernel_rfl) (by kernel_rfl) ?_
      repeat (first
        | go_big_quiet_step ((go_at_call 49; exact kept_call (unhide q4 _)))
        | quiet_step ((go_at_call 49; exact kept_call (unhide q4 _))))
      refine wpQuiet_nil ?_
      rintro _ ⟨q, rfl⟩
      clear ne e4 q4
      obtain ⟨w5, hb4⟩ := q
      replace c5 := cellB hb4 zr c5
      replace c6 := cellB hb4 zr c6
      clear c2 c3 c4
      replace zr := Nat.lt_of_lt_of_le zr hb4.size
      have B5 := hide (bTr (unhide B2) hb4)
      clear B2
      have ne : Nonempty (Kept w5) := ⟨⟨w5, Below.refl _ _⟩⟩
      have e5 := kept_cell zr c5
      go_wp2_with fail
      refine wp_region_kept (by kernel_rfl) (by kernel_rfl) ?_
      repeat (first
        | go_big_quiet_step ((go_at_call 49; exact kept_call (unhide q5 _)))
        | quiet_step ((go_at_call 49; exact kept_call (unhide q5 _))))
      refine wpQuiet_nil ?_
      rintro _ ⟨q, rfl⟩
      clear ne e5 q5
      obtain ⟨w6, hb5⟩ := q
      replace c6 := cellB hb5 zr c6
      clear c5
      replace zr := Nat.lt_of_lt_of_le zr hb5.size
      have B6 := hide (bTr (unhide B5) hb5)
      clear B5
      go_wp2_with fail
      exact ⟨⟨k + 1, j + 7, by omega, by go_num, by go_num, by omega, by omega, hide (by have := unhide hj; omega), B6⟩, by simp [intOf]; omega⟩
    · have e : k = n := by omega
      have ej := hide (show j = s + n * 7 by rw [← e]; exact unhide hj)
      go_wp2_with fail
      go_ret
      exact ⟨by rw [unhide ej]; rfl, unhide hb⟩

theorem markExpr_own (v : Value) (n s : Nat) (xs : List Value) (base : Nat) (w : World) (hn : n ≤ 1048576) (hs1 : 1 ≤ s) (hs9 : s ≤ 100000000) (h : w.ownsRow base 56 7 v n xs) :
    Calls Try.prog 30 #[v, .int .i64 s] w fun e w' => e = .returned (.int .i64 ((s + n * 7 : Nat) : Int)) ∧ MarksExpr w' v s n ∧ w.grownBy w' v.ownBlock := by
  rcases h.2 with ⟨rfl, e0⟩ | ⟨g, cap, cur, rfl, _, hh, hc, _, hsz, _⟩
  · go_enter Try.func30, Try.ntmps30
    go_wp2_with fail
    go_loopw [1, 5] (fun q i w' => i = .int .i64 0 ∧ q = .int .i64 s ∧ w = w') (fun _ _ _ => 0)
    case atStart => exact ⟨rfl, rfl, rfl⟩
    case round =>
      obtain ⟨rfl, rfl, rfl⟩ := hrel
      go_wp2_with fail
      go_ret
      exact ⟨by rw [e0]; simp, .inl ⟨rfl, e0⟩, World.grownBy.refl _ _⟩
  · have hr : RowIs w g cur 56 := hh
    refine (markExpr_row g n cap s cur w hn hs1 hs9 (by rw [hsz]; exact Nat.mul_le_mul_right _ hc) hr).mono ?_
    rintro e w' ⟨rfl, ⟨C, hr', hM⟩, hb⟩
    exact ⟨rfl, .inr ⟨g, cap, C, rfl, hr', hM⟩, hb⟩
theorem heldExpr_own (v : Value) (n s : Nat) (w : World) (hn : n ≤ 1048576) (hs1 : 1 ≤ s) (hs9 : s ≤ 100000000) (h : MarksExpr w v s n) :
    Calls Try.prog 31 #[v, .int .i64 s] w fun e w' => e = .returned (.int .i64 ((s + n * 7 : Nat) : Int)) ∧ Below w.heap.size w w' := by
  rcases h with ⟨rfl, rfl⟩ | ⟨g, cap, C, rfl, hr, hM⟩
  · go_enter Try.func31, Try.ntmps31
    go_wp2_with fail
    go_loop [1, 5] (fun q i => i = .int .i64 0 ∧ q = .int .i64 s) (fun _ _ => 0)
    case atStart => exact ⟨rfl, rfl⟩
    case round =>
      obtain ⟨rfl, rfl⟩ := hrel
      go_wp2_with fail
      go_ret
      exact ⟨by simp, Below.refl _ _⟩
  · exact heldExpr_row g n cap s C w hn hs1 hs9 hr hM
end Go.Proofs.Ytcajlndbaipcaaa
/- laws.markPolicy, laws.heldPolicy. -/
namespace Go.Proofs.Ytcajlndbaipcaaa.V
open Go.RowKit
set_option maxRecDepth 20000

theorem own_slY {w : World} {base e size n : Nat} {v : Value} {xs : List Value} (h : w.ownsRow base e size v n xs) : ∃ a cap, v = .slice a n cap := by
  rcases h.2 with ⟨rfl, rfl⟩ | ⟨g, cap, cur, rfl, _⟩
  · exact ⟨_, _, rfl⟩
  · exact ⟨_, _, rfl⟩
theorem markPolicy_own (P : PolT) (v : Value) (n s : Nat) (xs : List Value) (base : Nat) (w : World) (hn : n ≤ 1048576) (hs1 : 1 ≤ s) (hs9 : s ≤ 100000000) (h : w.ownsRow base 56 7 v n xs) :
    Calls Try.prog 11 #[polAgg P v, .int .i64 s] w fun e w' => e = .returned (.int .i64 ((s + n * 7 : Nat) : Int)) ∧ MarksExpr w' v s n ∧ w.grownBy w' v.ownBlock := by
  obtain ⟨a, cap, rfl⟩ := own_slY h
  have q := hide (markExpr_own (.slice a n cap) n s xs base (w.alloc (.cells (polRow P (.slice a n cap)) 36)) hn hs1 hs9 (h.kept (World.grownBy_alloc _ _ none) (by cases a <;> simp [Value.ownBlock])))
  clear h
  go_enter Try.func11, Try.ntmps11
  go_wp2_with fail
  refine (unhide q).mono ?_
  rintro e w1 ⟨rfl, hm, hg⟩
  have M := hide hm
  have G := hide ((World.grownBy_alloc w (.cells (polRow P (.slice a n cap)) 36) (Value.slice a n cap).ownBlock).trans hg)
  clear hm hg q
  go_wp2_with fail
  go_ret
  exact ⟨rfl, unhide M, unhide G⟩
theorem heldPolicy_own (P : PolT) (a : Option Addr) (n cap s : Nat) (w : World) (hn : n ≤ 1048576) (hs1 : 1 ≤ s) (hs9 : s ≤ 100000000) (h : MarksExpr w (.slice a n cap) s n) :
    Calls Try.prog 12 #[polAgg P (.slice a n cap), .int .i64 s] w fun e w' => e = .returned (.int .i64 ((s + n * 7 : Nat) : Int)) ∧ Below w.heap.size w w' := by
  have b0 := bAl (Below.refl w.heap.size w) (.cells (polRow P (.slice a n cap)) 36)
  have q := hide (heldExpr_own (.slice a n cap) n s _ hn hs1 hs9 (h.keep b0))
  have B0 := hide b0
  clear h b0
  go_enter Try.func12, Try.ntmps12
  go_wp2_with fail
  refine (unhide q).mono ?_
  rintro e w1 ⟨rfl, hb⟩
  have B1 := hide (bTr (unhide B0) hb)
  have p2 : ¬ ((s + n * 7 : Nat) : Int) < 0 := by omega
  have p2' : decide (((s + n * 7 : Nat) : Int) < 0) = false := by simp; omega
  clear hb q
  go_wp2_with fail
  go_ret
  exact ⟨rfl, unhide B1⟩
end Go.Proofs.Ytcajlndbaipcaaa.V
