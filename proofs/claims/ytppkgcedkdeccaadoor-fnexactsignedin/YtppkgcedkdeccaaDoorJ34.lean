/- LMr, LPz, one behind the other. -/
import Derived.Test.YtppkgcedkdeccaaDoorJ33
import Derived.Test.YtppkgcedkdeccaaDoorJ18
import Derived.Test.YtppkgcedkdeccaaDoorJ20
import Derived.Test.YtppkgcedkdeccaaDoorJ4
import Derived.Deep.Cut
/- laws.markSessReplyS, laws.heldSessReplyS: a row of 4 cells an element. -/
namespace Go.Proofs.YtppkgcedkdeccaaDoor
open Go.RowKit

def MCSessReply (C : Array Value) (o j : Nat) : Prop := C[o]? = some (.int .i64 ((j : Int))) ∧ C[o + 1]? = some (.string (mt (j + 1))) ∧ C[o + 2]? = some (.string (mt (j + 2))) ∧ C[o + 3]? = some (.int .i64 ((j : Int) + 1 + 1 + 1))
def MarkedSessReply (C : Array Value) (s n : Nat) : Prop := ∀ i, i < n → MCSessReply C (i * 4) (s + i * 4)
def MarksSessReply (w : World) (v : Value) (s n : Nat) : Prop := (v = .slice none 0 0 ∧ n = 0) ∨ ∃ g cap C, v = .slice (some ⟨g, 0, none⟩) n cap ∧ RowIs w g C 31 ∧ MarkedSessReply C s n
theorem MarksSessReply.keep {w w' : World} {v : Value} {s n : Nat} (h : MarksSessReply w v s n) (hb : Below w.heap.size w w') : MarksSessReply w' v s n :=
  h.imp_right fun ⟨g, cap, C, e, r, m⟩ => ⟨g, cap, C, e, r.keep hb, m⟩
theorem MarkedSessReply.set {C : Array Value} {s k j : Nat} (h : MarkedSessReply C s k) (hs : k * 4 + 3 < C.size) (hj : j = s + k * 4) {V0 V1 V2 V3 : Value} (e0 : V0 = .int .i64 ((j : Int))) (e1 : V1 = .string (mt (j + 1))) (e2 : V2 = .string (mt (j + 2))) (e3 : V3 = .int .i64 ((j : Int) + 1 + 1 + 1)) : MarkedSessReply ((((C.setIfInBounds (k * 4) (V0)).setIfInBounds (k * 4 + 1) (V1)).setIfInBounds (k * 4 + 2) (V2)).setIfInBounds (k * 4 + 3) (V3)) s (k + 1) := by
  intro i hi
  unfold MCSessReply
  by_cases e : i = k
  · subst e
    subst hj
    subst e0 e1 e2 e3
    have s0 : i * 4 < C.size := by omega
    have s1 : i * 4 + 1 < C.size := by omega
    have s2 : i * 4 + 2 < C.size := by omega
    have s3 : i * 4 + 3 < C.size := by omega
    simp [s0, s1, s2, s3]
  · have := h i (by omega)
    unfold MCSessReply at this
    simp only [Array.getElem?_setIfInBounds]
    repeat rw [if_neg (by omega)]
    exact this

set_option maxRecDepth 100000 in
set_option maxHeartbeats 4000000 in
theorem markSessReply_row (g n cap s : Nat) (C0 : Array Value) (w : World) (hn : n ≤ 1048576) (hs1 : 1 ≤ s) (hs9 : s ≤ 100000000) (hC : n * 4 ≤ C0.size) (hr : RowIs w g C0 31) :
    Calls Tryd.prog 20 #[.slice (some ⟨g, 0, none⟩) n cap, .int .i64 s] w fun e w' => e = .returned (.int .i64 ((s + n * 4 : Nat) : Int)) ∧ (∃ C, RowIs w' g C 31 ∧ MarkedSessReply C s n) ∧ w.grownBy w' (some g) := by
  have HR := hide hr
  clear hr
  go_enter Tryd.func20, Tryd.ntmps20
  go_wp2_with fail
  go_loopw [1, 5] (fun q i w' => ∃ (k j : Nat) (C : Array Value), k ≤ n ∧ i = .int .i64 k ∧ q = .int .i64 j ∧ 1 ≤ j ∧ j ≤ 200000000 ∧ Hid (j = s + k * 4) ∧ Hid (RowIs w' g C 31) ∧ Hid (n * 4 ≤ C.size) ∧ Hid (MarkedSessReply C s k) ∧ Hid (w.grownBy w' (some g))) (fun _ i _ => n - (intOf i).toNat)
  case atStart => exact ⟨0, s, C0, Nat.zero_le _, rfl, rfl, hs1, by omega, hide (by omega), HR, hide hC, hide (fun i h => absurd h (Nat.not_lt_zero _)), hide (World.grownBy.refl _ _)⟩
  case round =>
    obtain ⟨k, j, C, hk, rfl, rfl, hj1, hj2, hj, hR, hCs, hM, hb⟩ := hrel
    by_cases hlt : k < n
    · have i0 : (0 : Int) ≤ (k : Int) := by omega
      have i1 : (k : Int) < (n : Int) := by omega
      have ej : j ≤ 109437184 := by have := unhide hj; omega
      have s9 : k * 4 + 3 < C.size := by have := unhide hCs; omega
      obtain ⟨X1, hX1⟩ : ∃ X, X = mt (j + 1) := ⟨_, rfl⟩
      have q1 : Hid (∀ w, Calls Tryd.prog 42 #[.int .i64 ((j : Int) + 1)] w fun e w' => e = .returned (.string X1) ∧ Below w.heap.size w w') := hide (fun w => by have := markText_any (j + 1) w (by omega) (by omega); rw [hX1]; rwa [show ((j + 1 : Nat) : Int) = (j : Int) + 1 by omega] at this)
      obtain ⟨X2, hX2⟩ : ∃ X, X = mt (j + 2) := ⟨_, rfl⟩
      have q2 : Hid (∀ w, Calls Tryd.prog 42 #[.int .i64 ((j : Int) + 1 + 1)] w fun e w' => e = .returned (.string X2) ∧ Below w.heap.size w w') := hide (fun w => by have := markText_any (j + 2) w (by omega) (by omega); rw [hX2]; rwa [show ((j + 2 : Nat) : Int) = (j : Int) + 1 + 1 by omega] at this)
      have stM := hide ((unhide hM).set (j := j) (V0 := .int .i64 ((j : Int))) (V1 := .string X1) (V2 := .string X2) (V3 := .int .i64 ((j : Int) + 1 + 1 + 1)) s9 (unhide hj) rfl (by rw [hX1]) (by rw [hX2]) rfl)
      clear hX1 hX2
      have R0 := hR
      have B0 := hb
      clear hR hb hM
      have f0 := (unhide R0).froz (k * 4)
      have g0 := (unhide R0).cell (k * 4)
      obtain ⟨D0, d0⟩ : ∃ D, (C)[k * 4]? = some D := ⟨_, Array.getElem?_eq_getElem (by first | omega | (simp; omega))⟩
      rw [d0] at g0
      clear d0
      have R1 := hide ((unhide R0).set (k * 4) (.int .i64 ((j : Int))))
      have B1 := hide ((unhide B0).trans (gSet _ g (k * 4) (.int .i64 ((j : Int)))))
      clear R0 B0
      go_wp2_with fail
      refine (unhide q1 _).mono ?_
      rintro e w2 ⟨rfl, hb1⟩
      have B1a := hide ((unhide B1).trans (gB (some g) hb1))
      have R1a := hide ((unhide R1).keep hb1)
      clear hb1 q1 R1 B1
      have f1 := (unhide R1a).froz (k * 4 + 1)
      have g1 := (unhide R1a).cell (k * 4 + 1)
      obtain ⟨D1, d1⟩ : ∃ D, ((C.setIfInBounds (k * 4) (.int .i64 ((j : Int)))))[k * 4 + 1]? = some D := ⟨_, Array.getElem?_eq_getElem (by first | omega | (simp; omega))⟩
      rw [d1] at g1
      clear d1
      have R2 := hide ((unhide R1a).set (k * 4 + 1) (.string X1))
      have B2 := hide ((unhide B1a).trans (gSet _ g (k * 4 + 1) (.string X1)))
      clear R1a B1a
      go_wp2_with fail
      refine (unhide q2 _).mono ?_
      rintro e w3 ⟨rfl, hb2⟩
      have B2a := hide ((unhide B2).trans (gB (some g) hb2))
      have R2a := hide ((unhide R2).keep hb2)
      clear hb2 q2 R2 B2
      have f2 := (unhide R2a).froz (k * 4 + 2)
      have g2 := (unhide R2a).cell (k * 4 + 2)
      obtain ⟨D2, d2⟩ : ∃ D, (((C.setIfInBounds (k * 4) (.int .i64 ((j : Int)))).setIfInBounds (k * 4 + 1) (.string X1)))[k * 4 + 2]? = some D := ⟨_, Array.getElem?_eq_getElem (by first | omega | (simp; omega))⟩
      rw [d2] at g2
      clear d2
      have f3 := (unhide R2a).froz (k * 4 + 3)
      have g3 := (unhide R2a).cell (k * 4 + 3)
      obtain ⟨D3, d3⟩ : ∃ D, (((C.setIfInBounds (k * 4) (.int .i64 ((j : Int)))).setIfInBounds (k * 4 + 1) (.string X1)))[k * 4 + 3]? = some D := ⟨_, Array.getElem?_eq_getElem (by first | omega | (simp; omega))⟩
      rw [d3] at g3
      clear d3
      have R4 := hide (((unhide R2a).set (k * 4 + 2) (.string X2)).set (k * 4 + 3) (.int .i64 ((j : Int) + 1 + 1 + 1)))
      have B4 := hide (((unhide B2a).trans (gSet _ g (k * 4 + 2) (.string X2))).trans (gSet _ g (k * 4 + 3) (.int .i64 ((j : Int) + 1 + 1 + 1))))
      clear R2a B2a
      go_wp2_with fail
      exact ⟨⟨k + 1, j + 4, _, by omega, by go_num, by go_num, by omega, by omega, hide (by have := unhide hj; omega), R4, hide (by simp; exact unhide hCs), stM, B4⟩, by simp [intOf]; omega⟩
    · have e : k = n := by omega
      have ej := hide (show j = s + n * 4 by rw [← e]; exact unhide hj)
      go_wp2_with fail
      go_ret
      exact ⟨by rw [unhide ej]; rfl, ⟨C, unhide hR, by rw [← e]; exact unhide hM⟩, unhide hb⟩

set_option maxRecDepth 100000 in
set_option maxHeartbeats 4000000 in
theorem heldSessReply_row (g n cap s : Nat) (C : Array Value) (w : World) (hn : n ≤ 1048576) (hs1 : 1 ≤ s) (hs9 : s ≤ 100000000) (hr : RowIs w g C 31) (hM : MarkedSessReply C s n) :
    Calls Tryd.prog 21 #[.slice (some ⟨g, 0, none⟩) n cap, .int .i64 s] w fun e w' => e = .returned (.int .i64 ((s + n * 4 : Nat) : Int)) ∧ Below w.heap.size w w' := by
  have HR := hide hr
  have HM := hide hM
  clear hr hM
  go_enter Tryd.func21, Tryd.ntmps21
  go_wp2_with fail
  go_loopw [1, 5] (fun q i w' => ∃ (k j : Nat), k ≤ n ∧ i = .int .i64 k ∧ q = .int .i64 j ∧ 1 ≤ j ∧ j ≤ 200000000 ∧ Hid (j = s + k * 4) ∧ Hid (Below w.heap.size w w')) (fun _ i _ => n - (intOf i).toNat)
  case atStart => exact ⟨0, s, Nat.zero_le _, rfl, rfl, hs1, by omega, hide (by omega), hide (Below.refl _ _)⟩
  case round =>
    obtain ⟨k, j, hk, rfl, rfl, hj1, hj2, hj, hb⟩ := hrel
    by_cases hlt : k < n
    · have mk := unhide HM k hlt
      rw [← unhide hj] at mk
      unfold MCSessReply at mk
      obtain ⟨m0, m1, m2, m3⟩ := mk
      have i0 : (0 : Int) ≤ (k : Int) := by omega
      have i1 : (k : Int) < (n : Int) := by omega
      have ej : j ≤ 109437184 := by have := unhide hj; omega
      have R0 := (unhide HR).keep (unhide hb)
      have zr := R0.lt
      have c0 := R0.at m0
      have c1 := R0.at m1
      have c2 := R0.at m2
      have c3 := R0.at m3
      clear R0 m0 m1 m2 m3
      obtain ⟨X1, hX1⟩ : ∃ X, X = mt (j + 1) := ⟨_, rfl⟩
      have q1 : Hid (∀ w, Calls Tryd.prog 42 #[.int .i64 ((j : Int) + 1)] w fun e w' => e = .returned (.string X1) ∧ Below w.heap.size w w') := hide (fun w => by have := markText_any (j + 1) w (by omega) (by omega); rw [hX1]; rwa [show ((j + 1 : Nat) : Int) = (j : Int) + 1 by omega] at this)
      rw [← hX1] at c1
      clear hX1
      obtain ⟨X2, hX2⟩ : ∃ X, X = mt (j + 2) := ⟨_, rfl⟩
      have q2 : Hid (∀ w, Calls Tryd.prog 42 #[.int .i64 ((j : Int) + 1 + 1)] w fun e w' => e = .returned (.string X2) ∧ Below w.heap.size w w') := hide (fun w => by have := markText_any (j + 2) w (by omega) (by omega); rw [hX2]; rwa [show ((j + 2 : Nat) : Int) = (j : Int) + 1 + 1 by omega] at this)
      rw [← hX2] at c2
      clear hX2
      have B0 := hb
      clear hb
      have ne : Nonempty (Kept wr) := ⟨⟨wr, Below.refl _ _⟩⟩
      have e1 := kept_cell zr c1
      go_wp2_with fail
      refine wp_region_kept (by kernel_rfl) (by kernel_rfl) ?_
      repeat (first
        | go_big_quiet_step ((go_at_call 42; exact kept_call (unhide q1 _)))
        | quiet_step ((go_at_call 42; exact kept_call (unhide q1 _))))
      refine wpQuiet_nil ?_
      rintro _ ⟨q, rfl⟩
      clear ne e1 q1
      obtain ⟨w2, hb1⟩ := q
      replace c2 := cellB hb1 zr c2
      replace c3 := cellB hb1 zr c3
      clear c0 c1
      replace zr := Nat.lt_of_lt_of_le zr hb1.size
      have B2 := hide (bTr (unhide B0) hb1)
      clear B0
      have ne : Nonempty (Kept w2) := ⟨⟨w2, Below.refl _ _⟩⟩
      have e2 := kept_cell zr c2
      go_wp2_with fail
      refine wp_region_kept (by kernel_rfl) (by kernel_rfl) ?_
      repeat (first
        | go_big_quiet_step ((go_at_call 42; exact kept_call (unhide q2 _)))
        | quiet_step ((go_at_call 42; exact kept_call (unhide q2 _))))
      refine wpQuiet_nil ?_
      rintro _ ⟨q, rfl⟩
      clear ne e2 q2
      obtain ⟨w3, hb2⟩ := q
      replace c3 := cellB hb2 zr c3
      clear c2
      replace zr := Nat.lt_of_lt_of_le zr hb2.size
      have B3 := hide (bTr (unhide B2) hb2)
      clear B2
      go_wp2_with fail
      exact ⟨⟨k + 1, j + 4, by omega, by go_num, by go_num, by omega, by omega, hide (by have := unhide hj; omega), B3⟩, by simp [intOf]; omega⟩
    · have e : k = n := by omega
      have ej := hide (show j = s + n * 4 by rw [← e]; exact unhide hj)
      go_wp2_with fail
      go_ret
      exact ⟨by rw [unhide ej]; rfl, unhide hb⟩

theorem markSessReply_own (v : Value) (n s : Nat) (xs : List Value) (base : Nat) (w : World) (hn : n ≤ 1048576) (hs1 : 1 ≤ s) (hs9 : s ≤ 100000000) (h : w.ownsRow base 31 4 v n xs) :
    Calls Tryd.prog 20 #[v, .int .i64 s] w fun e w' => e = .returned (.int .i64 ((s + n * 4 : Nat) : Int)) ∧ MarksSessReply w' v s n ∧ w.grownBy w' v.ownBlock := by
  rcases h.2 with ⟨rfl, e0⟩ | ⟨g, cap, cur, rfl, _, hh, hc, _, hsz, _⟩
  · go_enter Tryd.func20, Tryd.ntmps20
    go_wp2_with fail
    go_loopw [1, 5] (fun q i w' => i = .int .i64 0 ∧ q = .int .i64 s ∧ w = w') (fun _ _ _ => 0)
    case atStart => exact ⟨rfl, rfl, rfl⟩
    case round =>
      obtain ⟨rfl, rfl, rfl⟩ := hrel
      go_wp2_with fail
      go_ret
      exact ⟨by rw [e0]; simp, .inl ⟨rfl, e0⟩, World.grownBy.refl _ _⟩
  · have hr : RowIs w g cur 31 := hh
    refine (markSessReply_row g n cap s cur w hn hs1 hs9 (by rw [hsz]; exact Nat.mul_le_mul_right _ hc) hr).mono ?_
    rintro e w' ⟨rfl, ⟨C, hr', hM⟩, hb⟩
    exact ⟨rfl, .inr ⟨g, cap, C, rfl, hr', hM⟩, hb⟩
theorem heldSessReply_own (v : Value) (n s : Nat) (w : World) (hn : n ≤ 1048576) (hs1 : 1 ≤ s) (hs9 : s ≤ 100000000) (h : MarksSessReply w v s n) :
    Calls Tryd.prog 21 #[v, .int .i64 s] w fun e w' => e = .returned (.int .i64 ((s + n * 4 : Nat) : Int)) ∧ Below w.heap.size w w' := by
  rcases h with ⟨rfl, rfl⟩ | ⟨g, cap, C, rfl, hr, hM⟩
  · go_enter Tryd.func21, Tryd.ntmps21
    go_wp2_with fail
    go_loop [1, 5] (fun q i => i = .int .i64 0 ∧ q = .int .i64 s) (fun _ _ => 0)
    case atStart => exact ⟨rfl, rfl⟩
    case round =>
      obtain ⟨rfl, rfl⟩ := hrel
      go_wp2_with fail
      go_ret
      exact ⟨by simp, Below.refl _ _⟩
  · exact heldSessReply_row g n cap s C w hn hs1 hs9 hr hM
end Go.Proofs.YtppkgcedkdeccaaDoor
/- Sessions: what the laws want of a SessConf. -/
namespace Go.Proofs.YtppkgcedkdeccaaDoor
set_option linter.unusedSimpArgs false
set_option linter.unusedVariables false
set_option maxRecDepth 20000
open Go.ChangeShapes Go.WideShapes Go.RowKit Go.Joins

def SzN (len : Nat) (q : Int) (e : Ending) : Prop := ∃ m : Int, -1 ≤ m ∧ m ≤ q ∧ (0 ≤ m → (len : Int) ≤ q) ∧ e = .returned (.int .i64 m)
theorem szB_any (a : Option Addr) (len cap : Nat) (q : Int) (w : World) (h0 : 0 ≤ q) (h1 : q ≤ 1048576) (hl : len ≤ maxLen) :
    Calls Tryd.prog 34 #[.slice a len cap, .int .i64 q] w fun e w' => SzN len q e ∧ w = w' := by
  unfold maxLen at hl
  by_cases hlen : q < (len : Int)
  · go_enter Tryd.func34, Tryd.ntmps34
    go_wp2
    go_ret
    exact ⟨⟨-1, by omega, by omega, by omega, rfl⟩, rfl⟩
  · have d1 : decide (q - (len : Int) < 0) = false := by simp; omega
    go_enter Tryd.func34, Tryd.ntmps34
    go_wp2
    go_ret
    exact ⟨⟨q - len, by omega, by omega, fun _ => by omega, rfl⟩, rfl⟩
theorem szConf_any (a : Option Addr) (len cap : Nat) (idle most : Int) (q : Int) (w : World) (h0 : 0 ≤ q) (h1 : q ≤ 1048576) (hl : len ≤ maxLen) :
    Calls Tryd.prog 11 #[.agg #[.slice a len cap, .int .i64 idle, .int .i64 most], .int .i64 q] w fun e w' => SzN len q e ∧ Below w.heap.size w w' := by
  have q1 := hide (fun q w h0 h1 => szB_any a len cap q w h0 h1 hl)
  go_enter Tryd.func11, Tryd.ntmps11
  go_wp2_with fail
  refine (unhide q1 _ _ h0 h1).mono ?_
  rintro e w2 ⟨⟨m, m1, m2, m3, rfl⟩, rfl⟩
  by_cases hm : m < 0
  · go_wp2_with fail
    go_ret
    exact ⟨⟨-1, by omega, by omega, by omega, rfl⟩, bAl (Below.refl _ _) _⟩
  · go_wp2_with fail
    go_ret
    exact ⟨⟨m, m1, m2, m3, rfl⟩, bAl (Below.refl _ _) _⟩
set_option maxHeartbeats 1000000 in
theorem toConf_any (a : Option Addr) (len cap : Nat) (l : List UInt8) (idle most : Int) (w : World) (hl : len ≤ 1048576) (hs : D.SlB w w.heap.size a len l) :
    Calls Tryd.prog 13 #[.agg #[.slice a len cap, .int .i64 idle, .int .i64 most]] w fun e w' => (∃ g, e = .returned (.agg #[.slice (some ⟨g, 0, none⟩) len len, .int .i64 idle, .int .i64 most]) ∧ w.heap.size ≤ g ∧ RowIs w' g (D.cellsOf l) 5) ∧ Below w.heap.size w w' := by
  obtain ⟨W1, hW1⟩ : ∃ W, W = w.alloc (.cells #[.slice a len cap, .int .i64 idle, .int .i64 most] 37) := ⟨_, rfl⟩
  obtain ⟨W2, hW2⟩ : ∃ W, W = W1.alloc (.cells #[.slice none 0 0, .int .i64 0, .int .i64 0] 24) := ⟨_, rfl⟩
  obtain ⟨W3, hW3⟩ : ∃ W, W = W2.alloc (.cells #[.slice none 0 0, .int .i64 0, .int .i64 0] 24) := ⟨_, rfl⟩
  have z1 : W1.heap.size = w.heap.size + 1 := by rw [hW1]; simp
  have z2 : W2.heap.size = w.heap.size + 1 + 1 := by rw [hW2]; simp [z1]
  have z3 : W3.heap.size = w.heap.size + 1 + 1 + 1 := by rw [hW3]; simp [z2]
  have b1 : Below w.heap.size w W1 := by rw [hW1]; exact bAl (Below.refl _ _) _
  have b12 : Below W1.heap.size W1 W2 := by rw [hW2]; exact bAl (Below.refl _ _) _
  have b23 : Below W2.heap.size W2 W3 := by rw [hW3]; exact bAl (Below.refl _ _) _
  have b3 : Below w.heap.size w W3 := bTr (bTr b1 b12) b23
  have A1 : RowIs W1 w.heap.size #[.slice a len cap, .int .i64 idle, .int .i64 most] 37 := by rw [hW1]; exact RowIs.new _ _ _
  have Z1 : RowIs W2 (w.heap.size + 1) #[.slice none 0 0, .int .i64 0, .int .i64 0] 24 := by rw [hW2, ← z1]; exact RowIs.new _ _ _
  have O1 : RowIs W3 (w.heap.size + 1 + 1) #[.slice none 0 0, .int .i64 0, .int .i64 0] 24 := by rw [hW3, ← z2]; exact RowIs.new _ _ _
  have HA := hide ((A1.keep b12).keep b23)
  have HZ := hide (Z1.keep b23)
  have HO := hide O1
  have HB := hide b3
  have S3 := hide ((hs.keep b3).mono b3.size)
  have HW := hide (show ((w.alloc (.cells #[.slice a len cap, .int .i64 idle, .int .i64 most] 37)).alloc (.cells #[.slice none 0 0, .int .i64 0, .int .i64 0] 24)).alloc (.cells #[.slice none 0 0, .int .i64 0, .int .i64 0] 24) = W3 by rw [hW3, hW2, hW1])
  clear hW1 hW2 hW3 z1 z2 b1 b12 b23 b3 A1 Z1 O1 hs
  have q1 := hide (D.toByteS_any a len cap l W3 hl (unhide S3))
  rw [z3] at q1
  go_enter Tryd.func13, Tryd.ntmps13
  go_wp2_with fail
  rw [unhide HW]
  refine (unhide q1).mono ?_
  rintro e w4 ⟨rfl, hr4, hb4⟩
  clear q1
  rw [← z3] at hb4
  have HR := hide (show RowIs w4 (w.heap.size + 1 + 1 + 1) (D.cellsOf l) 5 from hr4)
  have a4 := (unhide HA).keep hb4
  have zz4 := (unhide HZ).keep hb4
  have o4 := (unhide HO).keep hb4
  have B4 := hide (bTr (unhide HB) hb4)
  have k0 := o4.at (o := 0) (v := .slice none 0 0) rfl
  have k1 := o4.at (o := 1) (v := .int .i64 0) rfl
  have k2 := o4.at (o := 2) (v := .int .i64 0) rfl
  have g0 := o4.froz 0
  have g1 := o4.froz 1
  have g2 := o4.froz 2
  have gz := o4.lt
  have c1 := a4.at (o := 1) (v := .int .i64 idle) rfl
  have c2 := a4.at (o := 2) (v := .int .i64 most) rfl
  have p0 := zz4.at (o := 0) (v := .slice none 0 0) rfl
  have p1 := zz4.at (o := 1) (v := .int .i64 0) rfl
  have p2 := zz4.at (o := 2) (v := .int .i64 0) rfl
  have f0 := zz4.froz 0
  have f1 := zz4.froz 1
  have f2 := zz4.froz 2
  have fz := zz4.lt
  have rz := hr4.lt
  clear hr4 a4 zz4 o4 hb4 HA HZ HO HB S3 HW z3
  go_wp2_with fail
  refine bodyPost_ret (v := .agg #[.slice (some ⟨w.heap.size + 1 + 1 + 1, 0, none⟩) len len, .int .i64 idle, .int .i64 most]) (by simp [results, Tryd.results13, go_sem, p0, p1, p2]) rfl ⟨⟨_, rfl, by omega, ?_⟩, ?_⟩
  · have ne1 : w.heap.size + 1 + 1 + 1 ≠ w.heap.size + 1 + 1 := by omega
    have ne2 : w.heap.size + 1 + 1 + 1 ≠ w.heap.size + 1 := by omega
    exact ((((((unhide HR).setOther _ ne1).setOther _ ne1).setOther _ ne1).setOther _ ne2).setOther _ ne2).setOther _ ne2
  · exact ((((((unhide B4).setCell (by first | omega | (simp; omega) | simp) _).setCell (by first | omega | (simp; omega) | simp) _).setCell (by first | omega | (simp; omega) | simp) _).setCell (by first | omega | (simp; omega) | simp) _).setCell (by first | omega | (simp; omega) | simp) _).setCell (by first | omega | (simp; omega) | simp) _
set_option maxHeartbeats 1000000 in
theorem eqConf_same (a b : Option Addr) (len ca cb : Nat) (l : List UInt8) (idle most : Int) (w : World) (hl : len ≤ 1048576) (ha : D.SlB w w.heap.size a len l) (hb : D.SlB w w.heap.size b len l) :
    Calls Tryd.prog 16 #[.agg #[.slice a len ca, .int .i64 idle, .int .i64 most], .agg #[.slice b len cb, .int .i64 idle, .int .i64 most]] w fun e w' => e = .returned (.bool true) ∧ Below w.heap.size w w' := by
  obtain ⟨W2, hW2⟩ : ∃ W, W = (w.alloc (.cells #[.slice a len ca, .int .i64 idle, .int .i64 most] 24)).alloc (.cells #[.slice b len cb, .int .i64 idle, .int .i64 most] 24) := ⟨_, rfl⟩
  have b2 : Below w.heap.size w W2 := by rw [hW2]; exact bAl (bAl (Below.refl _ _) _) _
  have A2 : RowIs W2 w.heap.size #[.slice a len ca, .int .i64 idle, .int .i64 most] 24 := by rw [hW2]; exact (RowIs.new _ _ _).keep (bAl (Below.refl _ _) _)
  have C2 : RowIs W2 (w.heap.size + 1) #[.slice b len cb, .int .i64 idle, .int .i64 most] 24 := by
    rw [hW2]
    have := RowIs.new (w.alloc (.cells #[.slice a len ca, .int .i64 idle, .int .i64 most] 24)) #[.slice b len cb, .int .i64 idle, .int .i64 most] 24
    simpa using this
  have q1 := hide (D.eqByteS_any a b len len ca cb l l W2 hl hl ((ha.keep b2).mono b2.size) ((hb.keep b2).mono b2.size))
  have e1 : decide (l = l) = true := by simp
  rw [e1] at q1
  have HA := hide A2
  have HC := hide C2
  have HB := hide b2
  have HW := hide hW2.symm
  clear hW2 b2 A2 C2 ha hb e1
  go_enter Tryd.func16, Tryd.ntmps16
  go_wp2_with fail
  rw [unhide HW]
  refine (unhide q1).mono ?_
  rintro e w4 ⟨rfl, hb4⟩
  have a4 := (unhide HA).keep hb4
  have c4 := (unhide HC).keep hb4
  have B4 := hide (bTr (unhide HB) hb4)
  have k1 := a4.at (o := 1) (v := .int .i64 idle) rfl
  have k2 := a4.at (o := 2) (v := .int .i64 most) rfl
  have p1 := c4.at (o := 1) (v := .int .i64 idle) rfl
  have p2 := c4.at (o := 2) (v := .int .i64 most) rfl
  have az := a4.lt
  have cz := c4.lt
  clear a4 c4 hb4 HA HC HB HW q1
  go_wp2_with fail
  go_ret
  exact ⟨rfl, unhide B4⟩
theorem But.grows {g : Nat} {w w' : World} (h : D.But g w w') : w.grownBy w' (some g) := ⟨h.os, h.tape, h.output, h.size, fun k hk hne => h.block k hk (fun e => hne (by rw [e]))⟩
theorem gTr {a w w' : World} {row : Option Nat} (h : a.grownBy w row) (k : w.grownBy w' row) : a.grownBy w' row :=
  ⟨k.os.trans h.os, k.tape.trans h.tape, k.output.trans h.output, Nat.le_trans h.size k.size, fun i hi hn => (k.block i (Nat.lt_of_lt_of_le hi h.size) hn).trans (h.block i hi hn)⟩
set_option maxHeartbeats 1000000 in
theorem markConf_any (g len cap : Nat) (C : Array Value) (idle most : Int) (w : World) (hn : len ≤ 1048576) (hC : len ≤ C.size) (hr : RowIs w g C 5) :
    Calls Tryd.prog 18 #[.agg #[.slice (some ⟨g, 0, none⟩) len cap, .int .i64 idle, .int .i64 most], .int .i64 1] w fun e w' => e = .returned (.int .i64 (1 + (len : Int))) ∧ w.grownBy w' (some g) := by
  have gz := hr.lt
  obtain ⟨W2, hW2⟩ : ∃ W, W = w.alloc (.cells #[.slice (some ⟨g, 0, none⟩) len cap, .int .i64 idle, .int .i64 most] 24) := ⟨_, rfl⟩
  have b2 : Below w.heap.size w W2 := by rw [hW2]; exact bAl (Below.refl _ _) _
  have q1 := hide (D.mark_any g len cap C 1 W2 hn (by omega) (by omega) hC (hr.keep b2))
  have HW := hide hW2.symm
  have G2 := hide (gB (some g) b2)
  clear hW2 b2 hr
  go_enter Tryd.func18, Tryd.ntmps18
  go_wp2_with fail
  rw [unhide HW]
  refine (unhide q1).mono ?_
  rintro e w4 ⟨rfl, _, hb⟩
  have HG := hide (gTr (unhide G2) (But.grows hb))
  clear hb
  go_wp2_with fail
  go_ret
  exact ⟨rfl, unhide HG⟩
section
variable {H : Type} {enc : TypeId × Value → H} {w : World} {base : Nat} {held : Bool}
set_option maxRecDepth 100000 in
theorem readv_SessConf {r : Reach} {b0 : Nat} {v0 : Value} {d : DataW H} {p : List MemPlace} (hv : Value.okWide Tryd.prog w r b0 37 v0) (h : DataW.Trod enc Tryd.prog w base (fun _ => true) held 37 v0 d p) :
    ∃ (a : Option Addr) (len cap : Nat) (l : List UInt8) (idle most : Int), v0 = .agg #[.slice a len cap, .int .i64 idle, .int .i64 most] ∧ D.SlB w w.heap.size a len l ∧ len ≤ maxLen := by
  obtain ⟨c0, c1, c2, y0, y1, y2, m, rfl, _, _, g0, g1, g2⟩ := open_agg3 Tryd.underlying37 (by kernel_rfl) (by kernel_rfl) hv h
  obtain ⟨i, q1, _, _⟩ := DataW.trod_int Tryd.underlying3 g1
  obtain ⟨k, q2, _, _⟩ := DataW.trod_int Tryd.underlying3 g2
  simp at q1 q2
  subst q1 q2
  rcases open_ints Tryd.underlying22 Tryd.underlying5 (by kernel_rfl) g0 with ⟨hcs, _⟩ | ⟨x, l, c, zs, hcs, _, hl, hm, hz, _, hcell, hwz⟩
  · simp at hcs
    subst hcs
    exact ⟨none, 0, 0, [], i, k, rfl, ⟨rfl, .inl rfl⟩, Nat.zero_le _⟩
  · simp at hcs
    subst hcs
    obtain ⟨⟨l', hs⟩, hc, hm'⟩ := D.bytes_in (w := w) (.inr ⟨_, rfl, hl, hm, by simpa using hz, hcell, hwz⟩)
    exact ⟨_, _, _, l', i, k, rfl, hs, Nat.le_trans hc hm'⟩
end
end Go.Proofs.YtppkgcedkdeccaaDoor
