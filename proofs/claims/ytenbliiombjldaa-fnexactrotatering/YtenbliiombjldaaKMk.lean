/- laws.markKeyS, laws.heldKeyS: a row of 4 cells an element. -/
import Derived.Test.YtenbliiombjldaaGMkT
import Derived.Test.YtenbliiombjldaaKGk
namespace Go.Proofs.Ytenbliiombjldaa
open Go.RowKit

def MCKey (C : Array Value) (o j : Nat) : Prop := C[o]? = some (.string (mt (j + 0))) ∧ C[o + 1]? = some (.int .i64 ((j : Int) + 1)) ∧ C[o + 2]? = some (.int .i64 ((j : Int) + 1 + 1)) ∧ C[o + 3]? = some (.int .i64 ((j : Int) + 1 + 1 + 1))
def MarkedKey (C : Array Value) (s n : Nat) : Prop := ∀ i, i < n → MCKey C (i * 4) (s + i * 4)
def MarksKey (w : World) (v : Value) (s n : Nat) : Prop := (v = .slice none 0 0 ∧ n = 0) ∨ ∃ g cap C, v = .slice (some ⟨g, 0, none⟩) n cap ∧ RowIs w g C 30 ∧ MarkedKey C s n
theorem MarksKey.keep {w w' : World} {v : Value} {s n : Nat} (h : MarksKey w v s n) (hb : Below w.heap.size w w') : MarksKey w' v s n :=
  h.imp_right fun ⟨g, cap, C, e, r, m⟩ => ⟨g, cap, C, e, r.keep hb, m⟩
theorem MarkedKey.set {C : Array Value} {s k j : Nat} (h : MarkedKey C s k) (hs : k * 4 + 3 < C.size) (hj : j = s + k * 4) {V0 V1 V2 V3 : Value} (e0 : V0 = .string (mt (j + 0))) (e1 : V1 = .int .i64 ((j : Int) + 1)) (e2 : V2 = .int .i64 ((j : Int) + 1 + 1)) (e3 : V3 = .int .i64 ((j : Int) + 1 + 1 + 1)) : MarkedKey ((((C.setIfInBounds (k * 4) (V0)).setIfInBounds (k * 4 + 1) (V1)).setIfInBounds (k * 4 + 2) (V2)).setIfInBounds (k * 4 + 3) (V3)) s (k + 1) := by
  intro i hi
  unfold MCKey
  by_cases e : i = k
  · subst e
    subst hj
    subst e0 e1 e2 e3
    have s0 : i * 4 < C.size := by omega
    have s1 : i * 4 + 1 < C.size := by omega
    have s2 : i * 4 + 2 < C.size := by omega
    have s3 : i * 4 + 3 < C.size := by omega
    simp [s0, s1, s2, s3]
  · have := h i (by omega)
    unfold MCKey at this
    simp only [Array.getElem?_setIfInBounds]
    repeat rw [if_neg (by omega)]
    exact this

set_option maxRecDepth 100000 in
set_option maxHeartbeats 4000000 in
theorem markKey_row (g n cap s : Nat) (C0 : Array Value) (w : World) (hn : n ≤ 1048576) (hs1 : 1 ≤ s) (hs9 : s ≤ 100000000) (hC : n * 4 ≤ C0.size) (hr : RowIs w g C0 30) :
    Calls Try.prog 11 #[.slice (some ⟨g, 0, none⟩) n cap, .int .i64 s] w fun e w' => e = .returned (.int .i64 ((s + n * 4 : Nat) : Int)) ∧ (∃ C, RowIs w' g C 30 ∧ MarkedKey C s n) ∧ w.grownBy w' (some g) := by
  have HR := hide hr
  clear hr
  go_enter Try.func11, Try.ntmps11
  go_wp2_with fail
  go_loopw [1, 5] (fun q i w' => ∃ (k j : Nat) (C : Array Value), k ≤ n ∧ i = .int .i64 k ∧ q = .int .i64 j ∧ 1 ≤ j ∧ j ≤ 200000000 ∧ Hid (j = s + k * 4) ∧ Hid (RowIs w' g C 30) ∧ Hid (n * 4 ≤ C.size) ∧ Hid (MarkedKey C s k) ∧ Hid (w.grownBy w' (some g))) (fun _ i _ => n - (intOf i).toNat)
  case atStart => exact ⟨0, s, C0, Nat.zero_le _, rfl, rfl, hs1, by omega, hide (by omega), HR, hide hC, hide (fun i h => absurd h (Nat.not_lt_zero _)), hide (World.grownBy.refl _ _)⟩
  case round =>
    obtain ⟨k, j, C, hk, rfl, rfl, hj1, hj2, hj, hR, hCs, hM, hb⟩ := hrel
    by_cases hlt : k < n
    · have i0 : (0 : Int) ≤ (k : Int) := by omega
      have i1 : (k : Int) < (n : Int) := by omega
      have ej : j ≤ 109437184 := by have := unhide hj; omega
      have s9 : k * 4 + 3 < C.size := by have := unhide hCs; omega
      obtain ⟨X0, hX0⟩ : ∃ X, X = mt (j + 0) := ⟨_, rfl⟩
      have q0 : Hid (∀ w, Calls Try.prog 23 #[.int .i64 ((j : Int))] w fun e w' => e = .returned (.string X0) ∧ Below w.heap.size w w') := hide (fun w => by have := markText_any (j + 0) w (by omega) (by omega); rw [hX0]; rwa [show ((j + 0 : Nat) : Int) = (j : Int) by omega] at this)
      have stM := hide ((unhide hM).set (j := j) (V0 := .string X0) (V1 := .int .i64 ((j : Int) + 1)) (V2 := .int .i64 ((j : Int) + 1 + 1)) (V3 := .int .i64 ((j : Int) + 1 + 1 + 1)) s9 (unhide hj) (by rw [hX0]) rfl rfl rfl)
      clear hX0
      have R0 := hR
      have B0 := hb
      clear hR hb hM
      go_wp2_with fail
      refine (unhide q0 _).mono ?_
      rintro e w1 ⟨rfl, hb0⟩
      have B0a := hide ((unhide B0).trans (gB (some g) hb0))
      have R0a := hide ((unhide R0).keep hb0)
      clear hb0 q0 R0 B0
      have f0 := (unhide R0a).froz (k * 4)
      have g0 := (unhide R0a).cell (k * 4)
      obtain ⟨D0, d0⟩ : ∃ D, (C)[k * 4]? = some D := ⟨_, Array.getElem?_eq_getElem (by first | omega | (simp; omega))⟩
      rw [d0] at g0
      clear d0
      have f1 := (unhide R0a).froz (k * 4 + 1)
      have g1 := (unhide R0a).cell (k * 4 + 1)
      obtain ⟨D1, d1⟩ : ∃ D, (C)[k * 4 + 1]? = some D := ⟨_, Array.getElem?_eq_getElem (by first | omega | (simp; omega))⟩
      rw [d1] at g1
      clear d1
      have f2 := (unhide R0a).froz (k * 4 + 2)
      have g2 := (unhide R0a).cell (k * 4 + 2)
      obtain ⟨D2, d2⟩ : ∃ D, (C)[k * 4 + 2]? = some D := ⟨_, Array.getElem?_eq_getElem (by first | omega | (simp; omega))⟩
      rw [d2] at g2
      clear d2
      have f3 := (unhide R0a).froz (k * 4 + 3)
      have g3 := (unhide R0a).cell (k * 4 + 3)
      obtain ⟨D3, d3⟩ : ∃ D, (C)[k * 4 + 3]? = some D := ⟨_, Array.getElem?_eq_getElem (by first | omega | (simp; omega))⟩
      rw [d3] at g3
      clear d3
      have R4 := hide (((((unhide R0a).set (k * 4) (.string X0)).set (k * 4 + 1) (.int .i64 ((j : Int) + 1))).set (k * 4 + 2) (.int .i64 ((j : Int) + 1 + 1))).set (k * 4 + 3) (.int .i64 ((j : Int) + 1 + 1 + 1)))
      have B4 := hide (((((unhide B0a).trans (gSet _ g (k * 4) (.string X0))).trans (gSet _ g (k * 4 + 1) (.int .i64 ((j : Int) + 1)))).trans (gSet _ g (k * 4 + 2) (.int .i64 ((j : Int) + 1 + 1)))).trans (gSet _ g (k * 4 + 3) (.int .i64 ((j : Int) + 1 + 1 + 1))))
      clear R0a B0a
      go_wp2_with fail
      exact ⟨⟨k + 1, j + 4, _, by omega, by go_num, by go_num, by omega, by omega, hide (by have := unhide hj; omega), R4, hide (by simp; exact unhide hCs), stM, B4⟩, by simp [intOf]; omega⟩
    · have e : k = n := by omega
      have ej := hide (show j = s + n * 4 by rw [← e]; exact unhide hj)
      go_wp2_with fail
      go_ret
      exact ⟨by rw [unhide ej]; rfl, ⟨C, unhide hR, by rw [← e]; exact unhide hM⟩, unhide hb⟩

set_option maxRecDepth 100000 in
set_option maxHeartbeats 4000000 in
theorem heldKey_row (g n cap s : Nat) (C : Array Value) (w : World) (hn : n ≤ 1048576) (hs1 : 1 ≤ s) (hs9 : s ≤ 100000000) (hr : RowIs w g C 30) (hM : MarkedKey C s n) :
    Calls Try.prog 12 #[.slice (some ⟨g, 0, none⟩) n cap, .int .i64 s] w fun e w' => e = .returned (.int .i64 ((s + n * 4 : Nat) : Int)) ∧ Below w.heap.size w w' := by
  have HR := hide hr
  have HM := hide hM
  clear hr hM
  go_enter Try.func12, Try.ntmps12
  go_wp2_with fail
  go_loopw [1, 5] (fun q i w' => ∃ (k j : Nat), k ≤ n ∧ i = .int .i64 k ∧ q = .int .i64 j ∧ 1 ≤ j ∧ j ≤ 200000000 ∧ Hid (j = s + k * 4) ∧ Hid (Below w.heap.size w w')) (fun _ i _ => n - (intOf i).toNat)
  case atStart => exact ⟨0, s, Nat.zero_le _, rfl, rfl, hs1, by omega, hide (by omega), hide (Below.refl _ _)⟩
  case round =>
    obtain ⟨k, j, hk, rfl, rfl, hj1, hj2, hj, hb⟩ := hrel
    by_cases hlt : k < n
    · have mk := unhide HM k hlt
      rw [← unhide hj] at mk
      unfold MCKey at mk
      obtain ⟨m0, m1, m2, m3⟩ := mk
      have i0 : (0 : Int) ≤ (k : Int) := by omega
      have i1 : (k : Int) < (n : Int) := by omega
      have ej : j ≤ 109437184 := by have := unhide hj; omega
      have R0 := (unhide HR).keep (unhide hb)
      have zr := R0.lt
      have c0 := R0.at m0
      have c1 := R0.at m1
      have c2 := R0.at m2
      have c3 := R0.at m3
      clear R0 m0 m1 m2 m3
      obtain ⟨X0, hX0⟩ : ∃ X, X = mt (j + 0) := ⟨_, rfl⟩
      have q0 : Hid (∀ w, Calls Try.prog 23 #[.int .i64 ((j : Int))] w fun e w' => e = .returned (.string X0) ∧ Below w.heap.size w w') := hide (fun w => by have := markText_any (j + 0) w (by omega) (by omega); rw [hX0]; rwa [show ((j + 0 : Nat) : Int) = (j : Int) by omega] at this)
      rw [← hX0] at c0
      clear hX0
      have B0 := hb
      clear hb
      have ne : Nonempty (Kept wr) := ⟨⟨wr, Below.refl _ _⟩⟩
      have e0 := kept_cell zr c0
      go_wp2_with fail
      refine wp_region_kept (by kernel_rfl) (by kernel_rfl) ?_
      repeat (first
        | go_big_quiet_step ((go_at_call 23; exact kept_call (unhide q0 _)))
        | quiet_step ((go_at_call 23; exact kept_call (unhide q0 _))))
      refine wpQuiet_nil ?_
      rintro _ ⟨q, rfl⟩
      clear ne e0 q0
      obtain ⟨w1, hb0⟩ := q
      replace c1 := cellB hb0 zr c1
      replace c2 := cellB hb0 zr c2
      replace c3 := cellB hb0 zr c3
      clear c0
      replace zr := Nat.lt_of_lt_of_le zr hb0.size
      have B1 := hide (bTr (unhide B0) hb0)
      clear B0
      go_wp2_with fail
      exact ⟨⟨k + 1, j + 4, by omega, by go_num, by go_num, by omega, by omega, hide (by have := unhide hj; omega), B1⟩, by simp [intOf]; omega⟩
    · have e : k = n := by omega
      have ej := hide (show j = s + n * 4 by rw [← e]; exact unhide hj)
      go_wp2_with fail
      go_ret
      exact ⟨by rw [unhide ej]; rfl, unhide hb⟩

theorem markKey_own (v : Value) (n s : Nat) (xs : List Value) (base : Nat) (w : World) (hn : n ≤ 1048576) (hs1 : 1 ≤ s) (hs9 : s ≤ 100000000) (h : w.ownsRow base 30 4 v n xs) :
    Calls Try.prog 11 #[v, .int .i64 s] w fun e w' => e = .returned (.int .i64 ((s + n * 4 : Nat) : Int)) ∧ MarksKey w' v s n ∧ w.grownBy w' v.ownBlock := by
  rcases h.2 with ⟨rfl, e0⟩ | ⟨g, cap, cur, rfl, _, hh, hc, _, hsz, _⟩
  · go_enter Try.func11, Try.ntmps11
    go_wp2_with fail
    go_loopw [1, 5] (fun q i w' => i = .int .i64 0 ∧ q = .int .i64 s ∧ w = w') (fun _ _ _ => 0)
    case atStart => exact ⟨rfl, rfl, rfl⟩
    case round =>
      obtain ⟨rfl, rfl, rfl⟩ := hrel
      go_wp2_with fail
      go_ret
      exact ⟨by rw [e0]; simp, .inl ⟨rfl, e0⟩, World.grownBy.refl _ _⟩
  · have hr : RowIs w g cur 30 := hh
    refine (markKey_row g n cap s cur w hn hs1 hs9 (by rw [hsz]; exact Nat.mul_le_mul_right _ hc) hr).mono ?_
    rintro e w' ⟨rfl, ⟨C, hr', hM⟩, hb⟩
    exact ⟨rfl, .inr ⟨g, cap, C, rfl, hr', hM⟩, hb⟩
theorem heldKey_own (v : Value) (n s : Nat) (w : World) (hn : n ≤ 1048576) (hs1 : 1 ≤ s) (hs9 : s ≤ 100000000) (h : MarksKey w v s n) :
    Calls Try.prog 12 #[v, .int .i64 s] w fun e w' => e = .returned (.int .i64 ((s + n * 4 : Nat) : Int)) ∧ Below w.heap.size w w' := by
  rcases h with ⟨rfl, rfl⟩ | ⟨g, cap, C, rfl, hr, hM⟩
  · go_enter Try.func12, Try.ntmps12
    go_wp2_with fail
    go_loop [1, 5] (fun q i => i = .int .i64 0 ∧ q = .int .i64 s) (fun _ _ => 0)
    case atStart => exact ⟨rfl, rfl⟩
    case round =>
      obtain ⟨rfl, rfl⟩ := hrel
      go_wp2_with fail
      go_ret
      exact ⟨by simp, Below.refl _ _⟩
  · exact heldKey_row g n cap s C w hn hs1 hs9 hr hM
end Go.Proofs.Ytenbliiombjldaa
