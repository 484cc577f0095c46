/- GMkN, GMkR, one behind the other. -/
import Derived.Test.YtakjnbdjjeccoaaJ27
import Derived.Test.YtakjnbdjjeccoaaJ5
import Derived.Test.YtakjnbdjjeccoaaJ18
/- laws.markNestS, laws.heldNestS: a row of 2 cells an element. -/
namespace Go.Proofs.Ytakjnbdjjeccoaa
open Go.RowKit

def MCNest (C : Array Value) (o j : Nat) : Prop := C[o]? = some (.string (mt (j + 0))) ∧ C[o + 1]? = some (.string (mt (j + 1)))
def MarkedNest (C : Array Value) (s n : Nat) : Prop := ∀ i, i < n → MCNest C (i * 2) (s + i * 2)
def MarksNest (w : World) (v : Value) (s n : Nat) : Prop := (v = .slice none 0 0 ∧ n = 0) ∨ ∃ g cap C, v = .slice (some ⟨g, 0, none⟩) n cap ∧ RowIs w g C 42 ∧ MarkedNest C s n
theorem MarksNest.keep {w w' : World} {v : Value} {s n : Nat} (h : MarksNest w v s n) (hb : Below w.heap.size w w') : MarksNest w' v s n :=
  h.imp_right fun ⟨g, cap, C, e, r, m⟩ => ⟨g, cap, C, e, r.keep hb, m⟩
theorem MarkedNest.set {C : Array Value} {s k j : Nat} (h : MarkedNest C s k) (hs : k * 2 + 1 < C.size) (hj : j = s + k * 2) {V0 V1 : Value} (e0 : V0 = .string (mt (j + 0))) (e1 : V1 = .string (mt (j + 1))) : MarkedNest ((C.setIfInBounds (k * 2) (V0)).setIfInBounds (k * 2 + 1) (V1)) s (k + 1) := by
  intro i hi
  unfold MCNest
  by_cases e : i = k
  · subst e
    subst hj
    subst e0 e1
    have s0 : i * 2 < C.size := by omega
    have s1 : i * 2 + 1 < C.size := by omega
    simp [s0, s1]
  · have := h i (by omega)
    unfold MCNest at this
    simp only [Array.getElem?_setIfInBounds]
    repeat rw [if_neg (by omega)]
    exact this

set_option maxRecDepth 100000 in
set_option maxHeartbeats 4000000 in
theorem markNest_row (g n cap s : Nat) (C0 : Array Value) (w : World) (hn : n ≤ 1048576) (hs1 : 1 ≤ s) (hs9 : s ≤ 100000000) (hC : n * 2 ≤ C0.size) (hr : RowIs w g C0 42) :
    Calls Try.prog 19 #[.slice (some ⟨g, 0, none⟩) n cap, .int .i64 s] w fun e w' => e = .returned (.int .i64 ((s + n * 2 : Nat) : Int)) ∧ (∃ C, RowIs w' g C 42 ∧ MarkedNest C s n) ∧ w.grownBy w' (some g) := by
  have HR := hide hr
  clear hr
  go_enter Try.func19, Try.ntmps19
  go_wp2_with fail
  go_loopw [1, 5] (fun q i w' => ∃ (k j : Nat) (C : Array Value), k ≤ n ∧ i = .int .i64 k ∧ q = .int .i64 j ∧ 1 ≤ j ∧ j ≤ 200000000 ∧ Hid (j = s + k * 2) ∧ Hid (RowIs w' g C 42) ∧ Hid (n * 2 ≤ C.size) ∧ Hid (MarkedNest C s k) ∧ Hid (w.grownBy w' (some g))) (fun _ i _ => n - (intOf i).toNat)
  case atStart => exact ⟨0, s, C0, Nat.zero_le _, rfl, rfl, hs1, by omega, hide (by omega), HR, hide hC, hide (fun i h => absurd h (Nat.not_lt_zero _)), hide (World.grownBy.refl _ _)⟩
  case round =>
    obtain ⟨k, j, C, hk, rfl, rfl, hj1, hj2, hj, hR, hCs, hM, hb⟩ := hrel
    by_cases hlt : k < n
    · have i0 : (0 : Int) ≤ (k : Int) := by omega
      have i1 : (k : Int) < (n : Int) := by omega
      have ej : j ≤ 109437184 := by have := unhide hj; omega
      have s9 : k * 2 + 1 < C.size := by have := unhide hCs; omega
      obtain ⟨X0, hX0⟩ : ∃ X, X = mt (j + 0) := ⟨_, rfl⟩
      have q0 : Hid (∀ w, Calls Try.prog 56 #[.int .i64 ((j : Int))] w fun e w' => e = .returned (.string X0) ∧ Below w.heap.size w w') := hide (fun w => by have := markText_any (j + 0) w (by omega) (by omega); rw [hX0]; rwa [show ((j + 0 : Nat) : Int) = (j : Int) by omega] at this)
      obtain ⟨X1, hX1⟩ : ∃ X, X = mt (j + 1) := ⟨_, rfl⟩
      have q1 : Hid (∀ w, Calls Try.prog 56 #[.int .i64 ((j : Int) + 1)] w fun e w' => e = .returned (.string X1) ∧ Below w.heap.size w w') := hide (fun w => by have := markText_any (j + 1) w (by omega) (by omega); rw [hX1]; rwa [show ((j + 1 : Nat) : Int) = (j : Int) + 1 by omega] at this)
      have stM := hide ((unhide hM).set (j := j) (V0 := .string X0) (V1 := .string X1) s9 (unhide hj) (by rw [hX0]) (by rw [hX1]))
      clear hX0 hX1
      have R0 := hR
      have B0 := hb
      clear hR hb hM
      go_wp2_with fail
      refine (unhide q0 _).mono ?_
      rintro e w1 ⟨rfl, hb0⟩
      have B0a := hide ((unhide B0).trans (gB (some g) hb0))
      have R0a := hide ((unhide R0).keep hb0)
      clear hb0 q0 R0 B0
      have f0 := (unhide R0a).froz (k * 2)
      have g0 := (unhide R0a).cell (k * 2)
      obtain ⟨D0, d0⟩ : ∃ D, (C)[k * 2]? = some D := ⟨_, Array.getElem?_eq_getElem (by first | omega | (simp; omega))⟩
      rw [d0] at g0
      clear d0
      have R1 := hide ((unhide R0a).set (k * 2) (.string X0))
      have B1 := hide ((unhide B0a).trans (gSet _ g (k * 2) (.string X0)))
      clear R0a B0a
      go_wp2_with fail
      refine (unhide q1 _).mono ?_
      rintro e w2 ⟨rfl, hb1⟩
      have B1a := hide ((unhide B1).trans (gB (some g) hb1))
      have R1a := hide ((unhide R1).keep hb1)
      clear hb1 q1 R1 B1
      have f1 := (unhide R1a).froz (k * 2 + 1)
      have g1 := (unhide R1a).cell (k * 2 + 1)
      obtain ⟨D1, d1⟩ : ∃ D, ((C.setIfInBounds (k * 2) (.string X0)))[k * 2 + 1]? = some D := ⟨_, Array.getElem?_eq_getElem (by first | omega | (simp; omega))⟩
      rw [d1] at g1
      clear d1
      have R2 := hide ((unhide R1a).set (k * 2 + 1) (.string X1))
      have B2 := hide ((unhide B1a).trans (gSet _ g (k * 2 + 1) (.string X1)))
      clear R1a B1a
      go_wp2_with fail
      exact ⟨⟨k + 1, j + 2, _, by omega, by go_num, by go_num, by omega, by omega, hide (by have := unhide hj; omega), R2, hide (by simp; exact unhide hCs), stM, B2⟩, by simp [intOf]; omega⟩
    · have e : k = n := by omega
      have ej := hide (show j = s + n * 2 by rw [← e]; exact unhide hj)
      go_wp2_with fail
      go_ret
      exact ⟨by rw [unhide ej]; rfl, ⟨C, unhide hR, by rw [← e]; exact unhide hM⟩, unhide hb⟩

set_option maxRecDepth 100000 in
set_option maxHeartbeats 4000000 in
theorem heldNest_row (g n cap s : Nat) (C : Array Value) (w : World) (hn : n ≤ 1048576) (hs1 : 1 ≤ s) (hs9 : s ≤ 100000000) (hr : RowIs w g C 42) (hM : MarkedNest C s n) :
    Calls Try.prog 28 #[.slice (some ⟨g, 0, none⟩) n cap, .int .i64 s] w fun e w' => e = .returned (.int .i64 ((s + n * 2 : Nat) : Int)) ∧ Below w.heap.size w w' := by
  have HR := hide hr
  have HM := hide hM
  clear hr hM
  go_enter Try.func28, Try.ntmps28
  go_wp2_with fail
  go_loopw [1, 5] (fun q i w' => ∃ (k j : Nat), k ≤ n ∧ i = .int .i64 k ∧ q = .int .i64 j ∧ 1 ≤ j ∧ j ≤ 200000000 ∧ Hid (j = s + k * 2) ∧ Hid (Below w.heap.size w w')) (fun _ i _ => n - (intOf i).toNat)
  case atStart => exact ⟨0, s, Nat.zero_le _, rfl, rfl, hs1, by omega, hide (by omega), hide (Below.refl _ _)⟩
  case round =>
    obtain ⟨k, j, hk, rfl, rfl, hj1, hj2, hj, hb⟩ := hrel
    by_cases hlt : k < n
    · have mk := unhide HM k hlt
      rw [← unhide hj] at mk
      unfold MCNest at mk
      obtain ⟨m0, m1⟩ := mk
      have i0 : (0 : Int) ≤ (k : Int) := by omega
      have i1 : (k : Int) < (n : Int) := by omega
      have ej : j ≤ 109437184 := by have := unhide hj; omega
      have R0 := (unhide HR).keep (unhide hb)
      have zr := R0.lt
      have c0 := R0.at m0
      have c1 := R0.at m1
      clear R0 m0 m1
      obtain ⟨X0, hX0⟩ : ∃ X, X = mt (j + 0) := ⟨_, rfl⟩
      have q0 : Hid (∀ w, Calls Try.prog 56 #[.int .i64 ((j : Int))] w fun e w' => e = .returned (.string X0) ∧ Below w.heap.size w w') := hide (fun w => by have := markText_any (j + 0) w (by omega) (by omega); rw [hX0]; rwa [show ((j + 0 : Nat) : Int) = (j : Int) by omega] at this)
      rw [← hX0] at c0
      clear hX0
      obtain ⟨X1, hX1⟩ : ∃ X, X = mt (j + 1) := ⟨_, rfl⟩
      have q1 : Hid (∀ w, Calls Try.prog 56 #[.int .i64 ((j : Int) + 1)] w fun e w' => e = .returned (.string X1) ∧ Below w.heap.size w w') := hide (fun w => by have := markText_any (j + 1) w (by omega) (by omega); rw [hX1]; rwa [show ((j + 1 : Nat) : Int) = (j : Int) + 1 by omega] at this)
      rw [← hX1] at c1
      clear hX1
      have B0 := hb
      clear hb
      have ne : Nonempty (Kept wr) := ⟨⟨wr, Below.refl _ _⟩⟩
      have e0 := kept_cell zr c0
      go_wp2_with fail
      refine wp_region_kept (by kernel_rfl) (by kernel_rfl) ?_
      repeat (first
        | go_big_quiet_step ((go_at_call 56; exact kept_call (unhide q0 _)))
        | quiet_step ((go_at_call 56; exact kept_call (unhide q0 _))))
      refine wpQuiet_nil ?_
      rintro _ ⟨q, rfl⟩
      clear ne e0 q0
      obtain ⟨w1, hb0⟩ := q
      replace c1 := cellB hb0 zr c1
      clear c0
      replace zr := Nat.lt_of_lt_of_le zr hb0.size
      have B1 := hide (bTr (unhide B0) hb0)
      clear B0
      have ne : Nonempty (Kept w1) := ⟨⟨w1, Below.refl _ _⟩⟩
      have e1 := kept_cell zr c1
      go_wp2_with fail
      refine wp_region_kept (by kernel_rfl) (by kernel_rfl) ?_
      repeat (first
        | go_big_quiet_step ((go_at_call 56; exact kept_call (unhide q1 _)))
        | quiet_step ((go_at_call 56; exact kept_call (unhide q1 _))))
      refine wpQuiet_nil ?_
      rintro _ ⟨q, rfl⟩
      clear ne e1 q1
      obtain ⟨w2, hb1⟩ := q
      clear c1
      replace zr := Nat.lt_of_lt_of_le zr hb1.size
      have B2 := hide (bTr (unhide B1) hb1)
      clear B1
      go_wp2_with fail
      exact ⟨⟨k + 1, j + 2, by omega, by go_num, by go_num, by omega, by omega, hide (by have := unhide hj; omega), B2⟩, by simp [intOf]; omega⟩
    · have e : k = n := by omega
      have ej := hide (show j = s + n * 2 by rw [← e]; exact unhide hj)
      go_wp2_with fail
      go_ret
      exact ⟨by rw [unhide ej]; rfl, unhide hb⟩

theorem markNest_own (v : Value) (n s : Nat) (xs : List Value) (base : Nat) (w : World) (hn : n ≤ 1048576) (hs1 : 1 ≤ s) (hs9 : s ≤ 100000000) (h : w.ownsRow base 42 2 v n xs) :
    Calls Try.prog 19 #[v, .int .i64 s] w fun e w' => e = .returned (.int .i64 ((s + n * 2 : Nat) : Int)) ∧ MarksNest w' v s n ∧ w.grownBy w' v.ownBlock := by
  rcases h.2 with ⟨rfl, e0⟩ | ⟨g, cap, cur, rfl, _, hh, hc, _, hsz, _⟩
  · go_enter Try.func19, Try.ntmps19
    go_wp2_with fail
    go_loopw [1, 5] (fun q i w' => i = .int .i64 0 ∧ q = .int .i64 s ∧ w = w') (fun _ _ _ => 0)
    case atStart => exact ⟨rfl, rfl, rfl⟩
    case round =>
      obtain ⟨rfl, rfl, rfl⟩ := hrel
      go_wp2_with fail
      go_ret
      exact ⟨by rw [e0]; simp, .inl ⟨rfl, e0⟩, World.grownBy.refl _ _⟩
  · have hr : RowIs w g cur 42 := hh
    refine (markNest_row g n cap s cur w hn hs1 hs9 (by rw [hsz]; exact Nat.mul_le_mul_right _ hc) hr).mono ?_
    rintro e w' ⟨rfl, ⟨C, hr', hM⟩, hb⟩
    exact ⟨rfl, .inr ⟨g, cap, C, rfl, hr', hM⟩, hb⟩
theorem heldNest_own (v : Value) (n s : Nat) (w : World) (hn : n ≤ 1048576) (hs1 : 1 ≤ s) (hs9 : s ≤ 100000000) (h : MarksNest w v s n) :
    Calls Try.prog 28 #[v, .int .i64 s] w fun e w' => e = .returned (.int .i64 ((s + n * 2 : Nat) : Int)) ∧ Below w.heap.size w w' := by
  rcases h with ⟨rfl, rfl⟩ | ⟨g, cap, C, rfl, hr, hM⟩
  · go_enter Try.func28, Try.ntmps28
    go_wp2_with fail
    go_loop [1, 5] (fun q i => i = .int .i64 0 ∧ q = .int .i64 s) (fun _ _ => 0)
    case atStart => exact ⟨rfl, rfl⟩
    case round =>
      obtain ⟨rfl, rfl⟩ := hrel
      go_wp2_with fail
      go_ret
      exact ⟨by simp, Below.refl _ _⟩
  · exact heldNest_row g n cap s C w hn hs1 hs9 hr hM
end Go.Proofs.Ytakjnbdjjeccoaa
/- laws.markReachS, laws.heldReachS: a row of 3 cells an element. -/
namespace Go.Proofs.Ytakjnbdjjeccoaa
open Go.RowKit

def MCReach (C : Array Value) (o j : Nat) : Prop := C[o]? = some (.string (mt (j + 0))) ∧ C[o + 1]? = some (.string (mt (j + 1))) ∧ C[o + 2]? = some (.int .i64 ((j : Int) + 1 + 1))
def MarkedReach (C : Array Value) (s n : Nat) : Prop := ∀ i, i < n → MCReach C (i * 3) (s + i * 3)
def MarksReach (w : World) (v : Value) (s n : Nat) : Prop := (v = .slice none 0 0 ∧ n = 0) ∨ ∃ g cap C, v = .slice (some ⟨g, 0, none⟩) n cap ∧ RowIs w g C 70 ∧ MarkedReach C s n
theorem MarksReach.keep {w w' : World} {v : Value} {s n : Nat} (h : MarksReach w v s n) (hb : Below w.heap.size w w') : MarksReach w' v s n :=
  h.imp_right fun ⟨g, cap, C, e, r, m⟩ => ⟨g, cap, C, e, r.keep hb, m⟩
theorem MarkedReach.set {C : Array Value} {s k j : Nat} (h : MarkedReach C s k) (hs : k * 3 + 2 < C.size) (hj : j = s + k * 3) {V0 V1 V2 : Value} (e0 : V0 = .string (mt (j + 0))) (e1 : V1 = .string (mt (j + 1))) (e2 : V2 = .int .i64 ((j : Int) + 1 + 1)) : MarkedReach (((C.setIfInBounds (k * 3) (V0)).setIfInBounds (k * 3 + 1) (V1)).setIfInBounds (k * 3 + 2) (V2)) s (k + 1) := by
  intro i hi
  unfold MCReach
  by_cases e : i = k
  · subst e
    subst hj
    subst e0 e1 e2
    have s0 : i * 3 < C.size := by omega
    have s1 : i * 3 + 1 < C.size := by omega
    have s2 : i * 3 + 2 < C.size := by omega
    simp [s0, s1, s2]
  · have := h i (by omega)
    unfold MCReach at this
    simp only [Array.getElem?_setIfInBounds]
    repeat rw [if_neg (by omega)]
    exact this

set_option maxRecDepth 100000 in
set_option maxHeartbeats 4000000 in
theorem markReach_row (g n cap s : Nat) (C0 : Array Value) (w : World) (hn : n ≤ 1048576) (hs1 : 1 ≤ s) (hs9 : s ≤ 100000000) (hC : n * 3 ≤ C0.size) (hr : RowIs w g C0 70) :
    Calls Try.prog 20 #[.slice (some ⟨g, 0, none⟩) n cap, .int .i64 s] w fun e w' => e = .returned (.int .i64 ((s + n * 3 : Nat) : Int)) ∧ (∃ C, RowIs w' g C 70 ∧ MarkedReach C s n) ∧ w.grownBy w' (some g) := by
  have HR := hide hr
  clear hr
  go_enter Try.func20, Try.ntmps20
  go_wp2_with fail
  go_loopw [1, 5] (fun q i w' => ∃ (k j : Nat) (C : Array Value), k ≤ n ∧ i = .int .i64 k ∧ q = .int .i64 j ∧ 1 ≤ j ∧ j ≤ 200000000 ∧ Hid (j = s + k * 3) ∧ Hid (RowIs w' g C 70) ∧ Hid (n * 3 ≤ C.size) ∧ Hid (MarkedReach C s k) ∧ Hid (w.grownBy w' (some g))) (fun _ i _ => n - (intOf i).toNat)
  case atStart => exact ⟨0, s, C0, Nat.zero_le _, rfl, rfl, hs1, by omega, hide (by omega), HR, hide hC, hide (fun i h => absurd h (Nat.not_lt_zero _)), hide (World.grownBy.refl _ _)⟩
  case round =>
    obtain ⟨k, j, C, hk, rfl, rfl, hj1, hj2, hj, hR, hCs, hM, hb⟩ := hrel
    by_cases hlt : k < n
    · have i0 : (0 : Int) ≤ (k : Int) := by omega
      have i1 : (k : Int) < (n : Int) := by omega
      have ej : j ≤ 109437184 := by have := unhide hj; omega
      have s9 : k * 3 + 2 < C.size := by have := unhide hCs; omega
      obtain ⟨X0, hX0⟩ : ∃ X, X = mt (j + 0) := ⟨_, rfl⟩
      have q0 : Hid (∀ w, Calls Try.prog 56 #[.int .i64 ((j : Int))] w fun e w' => e = .returned (.string X0) ∧ Below w.heap.size w w') := hide (fun w => by have := markText_any (j + 0) w (by omega) (by omega); rw [hX0]; rwa [show ((j + 0 : Nat) : Int) = (j : Int) by omega] at this)
      obtain ⟨X1, hX1⟩ : ∃ X, X = mt (j + 1) := ⟨_, rfl⟩
      have q1 : Hid (∀ w, Calls Try.prog 56 #[.int .i64 ((j : Int) + 1)] w fun e w' => e = .returned (.string X1) ∧ Below w.heap.size w w') := hide (fun w => by have := markText_any (j + 1) w (by omega) (by omega); rw [hX1]; rwa [show ((j + 1 : Nat) : Int) = (j : Int) + 1 by omega] at this)
      have stM := hide ((unhide hM).set (j := j) (V0 := .string X0) (V1 := .string X1) (V2 := .int .i64 ((j : Int) + 1 + 1)) s9 (unhide hj) (by rw [hX0]) (by rw [hX1]) rfl)
      clear hX0 hX1
      have R0 := hR
      have B0 := hb
      clear hR hb hM
      go_wp2_with fail
      refine (unhide q0 _).mono ?_
      rintro e w1 ⟨rfl, hb0⟩
      have B0a := hide ((unhide B0).trans (gB (some g) hb0))
      have R0a := hide ((unhide R0).keep hb0)
      clear hb0 q0 R0 B0
      have f0 := (unhide R0a).froz (k * 3)
      have g0 := (unhide R0a).cell (k * 3)
      obtain ⟨D0, d0⟩ : ∃ D, (C)[k * 3]? = some D := ⟨_, Array.getElem?_eq_getElem (by first | omega | (simp; omega))⟩
      rw [d0] at g0
      clear d0
      have R1 := hide ((unhide R0a).set (k * 3) (.string X0))
      have B1 := hide ((unhide B0a).trans (gSet _ g (k * 3) (.string X0)))
      clear R0a B0a
      go_wp2_with fail
      refine (unhide q1 _).mono ?_
      rintro e w2 ⟨rfl, hb1⟩
      have B1a := hide ((unhide B1).trans (gB (some g) hb1))
      have R1a := hide ((unhide R1).keep hb1)
      clear hb1 q1 R1 B1
      have f1 := (unhide R1a).froz (k * 3 + 1)
      have g1 := (unhide R1a).cell (k * 3 + 1)
      obtain ⟨D1, d1⟩ : ∃ D, ((C.setIfInBounds (k * 3) (.string X0)))[k * 3 + 1]? = some D := ⟨_, Array.getElem?_eq_getElem (by first | omega | (simp; omega))⟩
      rw [d1] at g1
      clear d1
      have f2 := (unhide R1a).froz (k * 3 + 2)
      have g2 := (unhide R1a).cell (k * 3 + 2)
      obtain ⟨D2, d2⟩ : ∃ D, ((C.setIfInBounds (k * 3) (.string X0)))[k * 3 + 2]? = some D := ⟨_, Array.getElem?_eq_getElem (by first | omega | (simp; omega))⟩
      rw [d2] at g2
      clear d2
      have R3 := hide (((unhide R1a).set (k * 3 + 1) (.string X1)).set (k * 3 + 2) (.int .i64 ((j : Int) + 1 + 1)))
      have B3 := hide (((unhide B1a).trans (gSet _ g (k * 3 + 1) (.string X1))).trans (gSet _ g (k * 3 + 2) (.int .i64 ((j : Int) + 1 + 1))))
      clear R1a B1a
      go_wp2_with fail
      exact ⟨⟨k + 1, j + 3, _, by omega, by go_num, by go_num, by omega, by omega, hide (by have := unhide hj; omega), R3, hide (by simp; exact unhide hCs), stM, B3⟩, by simp [intOf]; omega⟩
    · have e : k = n := by omega
      have ej := hide (show j = s + n * 3 by rw [← e]; exact unhide hj)
      go_wp2_with fail
      go_ret
      exact ⟨by rw [unhide ej]; rfl, ⟨C, unhide hR, by rw [← e]; exact unhide hM⟩, unhide hb⟩

set_option maxRecDepth 100000 in
set_option maxHeartbeats 4000000 in
theorem heldReach_row (g n cap s : Nat) (C : Array Value) (w : World) (hn : n ≤ 1048576) (hs1 : 1 ≤ s) (hs9 : s ≤ 100000000) (hr : RowIs w g C 70) (hM : MarkedReach C s n) :
    Calls Try.prog 21 #[.slice (some ⟨g, 0, none⟩) n cap, .int .i64 s] w fun e w' => e = .returned (.int .i64 ((s + n * 3 : Nat) : Int)) ∧ Below w.heap.size w w' := by
  have HR := hide hr
  have HM := hide hM
  clear hr hM
  go_enter Try.func21, Try.ntmps21
  go_wp2_with fail
  go_loopw [1, 5] (fun q i w' => ∃ (k j : Nat), k ≤ n ∧ i = .int .i64 k ∧ q = .int .i64 j ∧ 1 ≤ j ∧ j ≤ 200000000 ∧ Hid (j = s + k * 3) ∧ Hid (Below w.heap.size w w')) (fun _ i _ => n - (intOf i).toNat)
  case atStart => exact ⟨0, s, Nat.zero_le _, rfl, rfl, hs1, by omega, hide (by omega), hide (Below.refl _ _)⟩
  case round =>
    obtain ⟨k, j, hk, rfl, rfl, hj1, hj2, hj, hb⟩ := hrel
    by_cases hlt : k < n
    · have mk := unhide HM k hlt
      rw [← unhide hj] at mk
      unfold MCReach at mk
      obtain ⟨m0, m1, m2⟩ := mk
      have i0 : (0 : Int) ≤ (k : Int) := by omega
      have i1 : (k : Int) < (n : Int) := by omega
      have ej : j ≤ 109437184 := by have := unhide hj; omega
      have R0 := (unhide HR).keep (unhide hb)
      have zr := R0.lt
      have c0 := R0.at m0
      have c1 := R0.at m1
      have c2 := R0.at m2
      clear R0 m0 m1 m2
      obtain ⟨X0, hX0⟩ : ∃ X, X = mt (j + 0) := ⟨_, rfl⟩
      have q0 : Hid (∀ w, Calls Try.prog 56 #[.int .i64 ((j : Int))] w fun e w' => e = .returned (.string X0) ∧ Below w.heap.size w w') := hide (fun w => by have := markText_any (j + 0) w (by omega) (by omega); rw [hX0]; rwa [show ((j + 0 : Nat) : Int) = (j : Int) by omega] at this)
      rw [← hX0] at c0
      clear hX0
      obtain ⟨X1, hX1⟩ : ∃ X, X = mt (j + 1) := ⟨_, rfl⟩
      have q1 : Hid (∀ w, Calls Try.prog 56 #[.int .i64 ((j : Int) + 1)] w fun e w' => e = .returned (.string X1) ∧ Below w.heap.size w w') := hide (fun w => by have := markText_any (j + 1) w (by omega) (by omega); rw [hX1]; rwa [show ((j + 1 : Nat) : Int) = (j : Int) + 1 by omega] at this)
      rw [← hX1] at c1
      clear hX1
      have B0 := hb
      clear hb
      have ne : Nonempty (Kept wr) := ⟨⟨wr, Below.refl _ _⟩⟩
      have e0 := kept_cell zr c0
      go_wp2_with fail
      refine wp_region_kept (by kernel_rfl) (by kernel_rfl) ?_
      repeat (first
        | go_big_quiet_step ((go_at_call 56; exact kept_call (unhide q0 _)))
        | quiet_step ((go_at_call 56; exact kept_call (unhide q0 _))))
      refine wpQuiet_nil ?_
      rintro _ ⟨q, rfl⟩
      clear ne e0 q0
      obtain ⟨w1, hb0⟩ := q
      replace c1 := cellB hb0 zr c1
      replace c2 := cellB hb0 zr c2
      clear c0
      replace zr := Nat.lt_of_lt_of_le zr hb0.size
      have B1 := hide (bTr (unhide B0) hb0)
      clear B0
      have ne : Nonempty (Kept w1) := ⟨⟨w1, Below.refl _ _⟩⟩
      have e1 := kept_cell zr c1
      go_wp2_with fail
      refine wp_region_kept (by kernel_rfl) (by kernel_rfl) ?_
      repeat (first
        | go_big_quiet_step ((go_at_call 56; exact kept_call (unhide q1 _)))
        | quiet_step ((go_at_call 56; exact kept_call (unhide q1 _))))
      refine wpQuiet_nil ?_
      rintro _ ⟨q, rfl⟩
      clear ne e1 q1
      obtain ⟨w2, hb1⟩ := q
      replace c2 := cellB hb1 zr c2
      clear c1
      replace zr := Nat.lt_of_lt_of_le zr hb1.size
      have B2 := hide (bTr (unhide B1) hb1)
      clear B1
      go_wp2_with fail
      exact ⟨⟨k + 1, j + 3, by omega, by go_num, by go_num, by omega, by omega, hide (by have := unhide hj; omega), B2⟩, by simp [intOf]; omega⟩
    · have e : k = n := by omega
      have ej := hide (show j = s + n * 3 by rw [← e]; exact unhide hj)
      go_wp2_with fail
      go_ret
      exact ⟨by rw [unhide ej]; rfl, unhide hb⟩

theorem markReach_own (v : Value) (n s : Nat) (xs : List Value) (base : Nat) (w : World) (hn : n ≤ 1048576) (hs1 : 1 ≤ s) (hs9 : s ≤ 100000000) (h : w.ownsRow base 70 3 v n xs) :
    Calls Try.prog 20 #[v, .int .i64 s] w fun e w' => e = .returned (.int .i64 ((s + n * 3 : Nat) : Int)) ∧ MarksReach w' v s n ∧ w.grownBy w' v.ownBlock := by
  rcases h.2 with ⟨rfl, e0⟩ | ⟨g, cap, cur, rfl, _, hh, hc, _, hsz, _⟩
  · go_enter Try.func20, Try.ntmps20
    go_wp2_with fail
    go_loopw [1, 5] (fun q i w' => i = .int .i64 0 ∧ q = .int .i64 s ∧ w = w') (fun _ _ _ => 0)
    case atStart => exact ⟨rfl, rfl, rfl⟩
    case round =>
      obtain ⟨rfl, rfl, rfl⟩ := hrel
      go_wp2_with fail
      go_ret
      exact ⟨by rw [e0]; simp, .inl ⟨rfl, e0⟩, World.grownBy.refl _ _⟩
  · have hr : RowIs w g cur 70 := hh
    refine (markReach_row g n cap s cur w hn hs1 hs9 (by rw [hsz]; exact Nat.mul_le_mul_right _ hc) hr).mono ?_
    rintro e w' ⟨rfl, ⟨C, hr', hM⟩, hb⟩
    exact ⟨rfl, .inr ⟨g, cap, C, rfl, hr', hM⟩, hb⟩
theorem heldReach_own (v : Value) (n s : Nat) (w : World) (hn : n ≤ 1048576) (hs1 : 1 ≤ s) (hs9 : s ≤ 100000000) (h : MarksReach w v s n) :
    Calls Try.prog 21 #[v, .int .i64 s] w fun e w' => e = .returned (.int .i64 ((s + n * 3 : Nat) : Int)) ∧ Below w.heap.size w w' := by
  rcases h with ⟨rfl, rfl⟩ | ⟨g, cap, C, rfl, hr, hM⟩
  · go_enter Try.func21, Try.ntmps21
    go_wp2_with fail
    go_loop [1, 5] (fun q i => i = .int .i64 0 ∧ q = .int .i64 s) (fun _ _ => 0)
    case atStart => exact ⟨rfl, rfl⟩
    case round =>
      obtain ⟨rfl, rfl⟩ := hrel
      go_wp2_with fail
      go_ret
      exact ⟨by simp, Below.refl _ _⟩
  · exact heldReach_row g n cap s C w hn hs1 hs9 hr hM
end Go.Proofs.Ytakjnbdjjeccoaa
