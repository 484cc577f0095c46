/- BMkX, BMkV, one behind the other. -/
import Derived.Test.YticidjceljjfnaaGreatDoorJ43
import Derived.Test.YticidjceljjfnaaGreatDoorJ36
/- laws.markStringS, laws.heldStringS: a row of 1 cells an element. -/
namespace Go.Proofs.YticidjceljjfnaaGreatDoor.V
open Go.RowKit

def MCStr (C : Array Value) (o j : Nat) : Prop := C[o]? = some (.string (mt (j + 0)))
def MarkedStr (C : Array Value) (s n : Nat) : Prop := ∀ i, i < n → MCStr C (i) (s + i)
def MarksStr (w : World) (v : Value) (s n : Nat) : Prop := (v = .slice none 0 0 ∧ n = 0) ∨ ∃ g cap C, v = .slice (some ⟨g, 0, none⟩) n cap ∧ RowIs w g C 9 ∧ MarkedStr C s n
theorem MarksStr.keep {w w' : World} {v : Value} {s n : Nat} (h : MarksStr w v s n) (hb : Below w.heap.size w w') : MarksStr w' v s n :=
  h.imp_right fun ⟨g, cap, C, e, r, m⟩ => ⟨g, cap, C, e, r.keep hb, m⟩
theorem MarkedStr.set {C : Array Value} {s k j : Nat} (h : MarkedStr C s k) (hs : k + 0 < C.size) (hj : j = s + k) {V0 : Value} (e0 : V0 = .string (mt (j + 0))) : MarkedStr (C.setIfInBounds (k) (V0)) s (k + 1) := by
  intro i hi
  unfold MCStr
  by_cases e : i = k
  · subst e
    subst hj
    subst e0
    have s0 : i < C.size := by omega
    simp [s0]
  · have := h i (by omega)
    unfold MCStr at this
    simp only [Array.getElem?_setIfInBounds]
    repeat rw [if_neg (by omega)]
    exact this

set_option maxRecDepth 100000 in
set_option maxHeartbeats 4000000 in
theorem markStr_row (g n cap s : Nat) (C0 : Array Value) (w : World) (hn : n ≤ 1048576) (hs1 : 1 ≤ s) (hs9 : s ≤ 100000000) (hC : n ≤ C0.size) (hr : RowIs w g C0 9) :
    Calls Tryz.prog 55 #[.slice (some ⟨g, 0, none⟩) n cap, .int .i64 s] w fun e w' => e = .returned (.int .i64 ((s + n : Nat) : Int)) ∧ (∃ C, RowIs w' g C 9 ∧ MarkedStr C s n) ∧ w.grownBy w' (some g) := by
  have HR := hide hr
  clear hr
  go_enter Tryz.func55, Tryz.ntmps55
  go_wp2_with fail
  go_loopw [1, 5] (fun q i w' => ∃ (k j : Nat) (C : Array Value), k ≤ n ∧ i = .int .i64 k ∧ q = .int .i64 j ∧ 1 ≤ j ∧ j ≤ 200000000 ∧ Hid (j = s + k) ∧ Hid (RowIs w' g C 9) ∧ Hid (n ≤ C.size) ∧ Hid (MarkedStr C s k) ∧ Hid (w.grownBy w' (some g))) (fun _ i _ => n - (intOf i).toNat)
  case atStart => exact ⟨0, s, C0, Nat.zero_le _, rfl, rfl, hs1, by omega, hide (by omega), HR, hide hC, hide (fun i h => absurd h (Nat.not_lt_zero _)), hide (World.grownBy.refl _ _)⟩
  case round =>
    obtain ⟨k, j, C, hk, rfl, rfl, hj1, hj2, hj, hR, hCs, hM, hb⟩ := hrel
    by_cases hlt : k < n
    · have i0 : (0 : Int) ≤ (k : Int) := by omega
      have i1 : (k : Int) < (n : Int) := by omega
      have ej : j ≤ 109437184 := by have := unhide hj; omega
      have s9 : k + 0 < C.size := by have := unhide hCs; omega
      obtain ⟨X0, hX0⟩ : ∃ X, X = mt (j + 0) := ⟨_, rfl⟩
      have q0 : Hid (∀ w, Calls Tryz.prog 83 #[.int .i64 ((j : Int))] w fun e w' => e = .returned (.string X0) ∧ Below w.heap.size w w') := hide (fun w => by have := markText_any (j + 0) w (by omega) (by omega); rw [hX0]; rwa [show ((j + 0 : Nat) : Int) = (j : Int) by omega] at this)
      have stM := hide ((unhide hM).set (j := j) (V0 := .string X0) s9 (unhide hj) (by rw [hX0]))
      clear hX0
      have R0 := hR
      have B0 := hb
      clear hR hb hM
      go_wp2_with fail
      refine (unhide q0 _).mono ?_
      rintro e w1 ⟨rfl, hb0⟩
      have B0a := hide ((unhide B0).trans (gB (some g) hb0))
      have R0a := hide ((unhide R0).keep hb0)
      clear hb0 q0 R0 B0
      have f0 := (unhide R0a).froz (k)
      have g0 := (unhide R0a).cell (k)
      obtain ⟨D0, d0⟩ : ∃ D, (C)[k]? = some D := ⟨_, Array.getElem?_eq_getElem (by first | omega | (simp; omega))⟩
      rw [d0] at g0
      clear d0
      have R1 := hide ((unhide R0a).set (k) (.string X0))
      have B1 := hide ((unhide B0a).trans (gSet _ g (k) (.string X0)))
      clear R0a B0a
      go_wp2_with fail
      exact ⟨⟨k + 1, j + 1, _, by omega, by go_num, by go_num, by omega, by omega, hide (by have := unhide hj; omega), R1, hide (by simp; exact unhide hCs), stM, B1⟩, by simp [intOf]; omega⟩
    · have e : k = n := by omega
      have ej := hide (show j = s + n by rw [← e]; exact unhide hj)
      go_wp2_with fail
      go_ret
      exact ⟨by rw [unhide ej]; rfl, ⟨C, unhide hR, by rw [← e]; exact unhide hM⟩, unhide hb⟩

set_option maxRecDepth 100000 in
set_option maxHeartbeats 4000000 in
theorem heldStr_row (g n cap s : Nat) (C : Array Value) (w : World) (hn : n ≤ 1048576) (hs1 : 1 ≤ s) (hs9 : s ≤ 100000000) (hr : RowIs w g C 9) (hM : MarkedStr C s n) :
    Calls Tryz.prog 57 #[.slice (some ⟨g, 0, none⟩) n cap, .int .i64 s] w fun e w' => e = .returned (.int .i64 ((s + n : Nat) : Int)) ∧ Below w.heap.size w w' := by
  have HR := hide hr
  have HM := hide hM
  clear hr hM
  go_enter Tryz.func57, Tryz.ntmps57
  go_wp2_with fail
  go_loopw [1, 5] (fun q i w' => ∃ (k j : Nat), k ≤ n ∧ i = .int .i64 k ∧ q = .int .i64 j ∧ 1 ≤ j ∧ j ≤ 200000000 ∧ Hid (j = s + k) ∧ Hid (Below w.heap.size w w')) (fun _ i _ => n - (intOf i).toNat)
  case atStart => exact ⟨0, s, Nat.zero_le _, rfl, rfl, hs1, by omega, hide (by omega), hide (Below.refl _ _)⟩
  case round =>
    obtain ⟨k, j, hk, rfl, rfl, hj1, hj2, hj, hb⟩ := hrel
    by_cases hlt : k < n
    · have mk := unhide HM k hlt
      rw [← unhide hj] at mk
      unfold MCStr at mk
      have m0 := mk
      have i0 : (0 : Int) ≤ (k : Int) := by omega
      have i1 : (k : Int) < (n : Int) := by omega
      have ej : j ≤ 109437184 := by have := unhide hj; omega
      have R0 := (unhide HR).keep (unhide hb)
      have zr := R0.lt
      have c0 := R0.at m0
      clear R0 m0
      obtain ⟨X0, hX0⟩ : ∃ X, X = mt (j + 0) := ⟨_, rfl⟩
      have q0 : Hid (∀ w, Calls Tryz.prog 83 #[.int .i64 ((j : Int))] w fun e w' => e = .returned (.string X0) ∧ Below w.heap.size w w') := hide (fun w => by have := markText_any (j + 0) w (by omega) (by omega); rw [hX0]; rwa [show ((j + 0 : Nat) : Int) = (j : Int) by omega] at this)
      rw [← hX0] at c0
      clear hX0
      have B0 := hb
      clear hb
      have ne : Nonempty (Kept wr) := ⟨⟨wr, Below.refl _ _⟩⟩
      have e0 := kept_cell zr c0
      go_wp2_with fail
      refine wp_region_kept (by kernel_rfl) (by kernel_rfl) ?_
      repeat (first
        | go_big_quiet_step ((go_at_call 83; exact kept_call (unhide q0 _)))
        | quiet_step ((go_at_call 83; exact kept_call (unhide q0 _))))
      refine wpQuiet_nil ?_
      rintro _ ⟨q, rfl⟩
      clear ne e0 q0
      obtain ⟨w1, hb0⟩ := q
      clear c0
      replace zr := Nat.lt_of_lt_of_le zr hb0.size
      have B1 := hide (bTr (unhide B0) hb0)
      clear B0
      go_wp2_with fail
      exact ⟨⟨k + 1, j + 1, by omega, by go_num, by go_num, by omega, by omega, hide (by have := unhide hj; omega), B1⟩, by simp [intOf]; omega⟩
    · have e : k = n := by omega
      have ej := hide (show j = s + n by rw [← e]; exact unhide hj)
      go_wp2_with fail
      go_ret
      exact ⟨by rw [unhide ej]; rfl, unhide hb⟩

theorem markStr_own (v : Value) (n s : Nat) (xs : List Value) (base : Nat) (w : World) (hn : n ≤ 1048576) (hs1 : 1 ≤ s) (hs9 : s ≤ 100000000) (h : w.ownsRow base 9 1 v n xs) :
    Calls Tryz.prog 55 #[v, .int .i64 s] w fun e w' => e = .returned (.int .i64 ((s + n : Nat) : Int)) ∧ MarksStr w' v s n ∧ w.grownBy w' v.ownBlock := by
  rcases h.2 with ⟨rfl, e0⟩ | ⟨g, cap, cur, rfl, _, hh, hc, _, hsz, _⟩
  · go_enter Tryz.func55, Tryz.ntmps55
    go_wp2_with fail
    go_loopw [1, 5] (fun q i w' => i = .int .i64 0 ∧ q = .int .i64 s ∧ w = w') (fun _ _ _ => 0)
    case atStart => exact ⟨rfl, rfl, rfl⟩
    case round =>
      obtain ⟨rfl, rfl, rfl⟩ := hrel
      go_wp2_with fail
      go_ret
      exact ⟨by rw [e0]; simp, .inl ⟨rfl, e0⟩, World.grownBy.refl _ _⟩
  · have hr : RowIs w g cur 9 := hh
    refine (markStr_row g n cap s cur w hn hs1 hs9 (by rw [hsz]; omega) hr).mono ?_
    rintro e w' ⟨rfl, ⟨C, hr', hM⟩, hb⟩
    exact ⟨rfl, .inr ⟨g, cap, C, rfl, hr', hM⟩, hb⟩
theorem heldStr_own (v : Value) (n s : Nat) (w : World) (hn : n ≤ 1048576) (hs1 : 1 ≤ s) (hs9 : s ≤ 100000000) (h : MarksStr w v s n) :
    Calls Tryz.prog 57 #[v, .int .i64 s] w fun e w' => e = .returned (.int .i64 ((s + n : Nat) : Int)) ∧ Below w.heap.size w w' := by
  rcases h with ⟨rfl, rfl⟩ | ⟨g, cap, C, rfl, hr, hM⟩
  · go_enter Tryz.func57, Tryz.ntmps57
    go_wp2_with fail
    go_loop [1, 5] (fun q i => i = .int .i64 0 ∧ q = .int .i64 s) (fun _ _ => 0)
    case atStart => exact ⟨rfl, rfl⟩
    case round =>
      obtain ⟨rfl, rfl⟩ := hrel
      go_wp2_with fail
      go_ret
      exact ⟨by simp, Below.refl _ _⟩
  · exact heldStr_row g n cap s C w hn hs1 hs9 hr hM
end Go.Proofs.YticidjceljjfnaaGreatDoor.V
/- laws.markValue, laws.heldValue. -/
namespace Go.Proofs.YticidjceljjfnaaGreatDoor.V
open Go.RowKit
set_option maxRecDepth 20000

theorem MarksAtom.grown {w w' : World} {v : Value} {s n : Nat} {r : Option Nat} (h : MarksAtom w v s n) (hg : w.grownBy w' r) (hne : v.ownBlock = none ∨ v.ownBlock ≠ r) : MarksAtom w' v s n := by
  rcases h with h | ⟨g, cap, C, e, hr, m⟩
  · exact .inl h
  · refine .inr ⟨g, cap, C, e, hr.grown hg (fun e2 => ?_), m⟩
    have eo : v.ownBlock = some g := by rw [e]; rfl
    rcases hne with h | h
    · rw [eo] at h; cases h
    · exact h (by rw [eo, e2])
structure MarksV (w : World) (v : ValT) (v1 v2 : Value) : Prop where
  a : MarksAtom w v1 1 v.items.length
  n : MarksStr w v2 (1 + v.items.length * 4) v.names.length
theorem MarksV.keep {w w' : World} {v : ValT} {v1 v2 : Value} (h : MarksV w v v1 v2) (hb : Below w.heap.size w w') : MarksV w' v v1 v2 := ⟨h.a.keep hb, h.n.keep hb⟩

theorem markValue_own (v : ValT) (v1 v2 : Value) (base : Nat) (w : World) (hi : v.items.length ≤ 50) (hn : v.names.length ≤ 50) (hb : base ≤ w.heap.size) (h : VOwn w base v v1 v2) :
    Calls Tryz.prog 25 #[VRet v v1 v2, .int .i64 1] w fun e w' => e = .returned (.int .i64 ((1 + v.items.length * 4 + v.names.length : Nat) : Int)) ∧ MarksV w' v v1 v2 ∧ Below base w w' ∧ (∀ b C T, RowIs w b C T → (∀ g, v1.ownBlock = some g → g ≠ b) → (∀ g, v2.ownBlock = some g → g ≠ b) → RowIs w' b C T) := by
  obtain ⟨a1, c1, e1⟩ := own_sl h.i
  subst e1
  obtain ⟨a2, c2, e2⟩ := own_sl h.n
  subst e2
  have H := hide h
  have A0 : Value := .int .i64 0
  obtain ⟨X, hX⟩ : ∃ X : Obj, X = .cells #[.int .i64 v.k, .int .i64 v.a.x, .int .i64 v.a.n, .string v.a.t, .string v.a.y, .slice a1 v.items.length c1, .slice a2 v.names.length c2] 35 := ⟨_, rfl⟩
  have R := hide (RowIs.new w #[.int .i64 v.k, .int .i64 v.a.x, .int .i64 v.a.n, .string v.a.t, .string v.a.y, .slice a1 v.items.length c1, .slice a2 v.names.length c2] 35)
  have B0 : Hid (Below base w (w.alloc X)) := hide ((Below.refl base w).alloc hb X)
  have q1 := hide (markAtom_own (.slice a1 v.items.length c1) v.items.length 1 (atomsV v.items) base (w.alloc X) (by omega) (by omega) (by omega) (h.i.alloc X))
  have l1 := hide h.i.lt
  have l2 := hide h.n.lt
  have O2 := hide (h.n.alloc X)
  have sz : (w.alloc X).heap.size = w.heap.size + 1 := by simp
  rw [hX] at q1 B0 O2 sz
  clear h hX X A0
  unfold VRet
  go_enter Tryz.func25, Tryz.ntmps25
  go_wp2_with fail
  refine (unhide q1).mono ?_
  rintro e w1 ⟨rfl, hm, hg⟩
  have R1 := hide ((unhide R).grown hg (fun e => by have := (unhide l1 _ e.symm).2; omega))
  have O3 := hide ((unhide O2).kept hg (own_or (fun g e1 e2 => (unhide H).dj g e2 e1)))
  have B1 := hide ((unhide B0).grown hg (by omega) (fun k e => (unhide l1 k e).1))
  have s1 := hg.size
  have RW := hide (show ∀ b C T, RowIs w b C T → (∀ g, (Value.slice a1 v.items.length c1).ownBlock = some g → g ≠ b) → RowIs w1 b C T from fun b C T hr hn => (hr.keep (bAl (Below.refl _ _) _)).grown hg (fun e => hn b e.symm rfl))
  have M1 := hide hm
  have c6 := (unhide R1).at (o := 6) (v := .slice a2 v.names.length c2) rfl
  have q2 := hide (markStr_own (.slice a2 v.names.length c2) v.names.length (1 + v.items.length * 4) _ base w1 (by omega) (by omega) (by omega) (unhide O3))
  clear hg q1 R hm
  go_wp2_with fail
  refine (unhide q2).mono ?_
  rintro e w2 ⟨rfl, hm2, hg2⟩
  have fin := hide (show MarksV w2 v (.slice a1 v.items.length c1) (.slice a2 v.names.length c2) ∧ Below base w w2 ∧ (∀ b C T, RowIs w b C T → (∀ g, (Value.slice a1 v.items.length c1).ownBlock = some g → g ≠ b) → (∀ g, (Value.slice a2 v.names.length c2).ownBlock = some g → g ≠ b) → RowIs w2 b C T) from ⟨⟨(unhide M1).grown hg2 (own_or (unhide H).dj), hm2⟩, (unhide B1).grown hg2 (by omega) (fun k e => (unhide l2 k e).1), fun b C T hr h1 h2 => (unhide RW b C T hr h1).grown hg2 (fun e => h2 b e.symm rfl)⟩)
  clear hg2 hm2 q2
  go_wp2_with fail
  go_ret
  exact ⟨rfl, unhide fin⟩

theorem heldValue_own (v : ValT) (v1 v2 : Value) (w : World) (hi : v.items.length ≤ 50) (hn : v.names.length ≤ 50) (h : MarksV w v v1 v2) (h1 : ∃ a c, v1 = .slice a v.items.length c) (h2 : ∃ a c, v2 = .slice a v.names.length c) :
    Calls Tryz.prog 26 #[VRet v v1 v2, .int .i64 1] w fun e w' => e = .returned (.int .i64 ((1 + v.items.length * 4 + v.names.length : Nat) : Int)) ∧ Below w.heap.size w w' := by
  obtain ⟨a1, c1, rfl⟩ := h1
  obtain ⟨a2, c2, rfl⟩ := h2
  have R := hide (RowIs.new w #[.int .i64 v.k, .int .i64 v.a.x, .int .i64 v.a.n, .string v.a.t, .string v.a.y, .slice a1 v.items.length c1, .slice a2 v.names.length c2] 35)
  have b0 := bAl (Below.refl w.heap.size w) (.cells #[.int .i64 v.k, .int .i64 v.a.x, .int .i64 v.a.n, .string v.a.t, .string v.a.y, .slice a1 v.items.length c1, .slice a2 v.names.length c2] 35)
  have M := hide (h.keep b0)
  have B0 := hide b0
  have q1 := hide (heldAtom_own (.slice a1 v.items.length c1) v.items.length 1 _ (by omega) (by omega) (by omega) (unhide M).a)
  clear h b0
  unfold VRet
  go_enter Tryz.func26, Tryz.ntmps26
  go_wp2_with fail
  refine (unhide q1).mono ?_
  rintro e w1 ⟨rfl, hb1⟩
  have c6 := ((unhide R).keep hb1).at (o := 6) (v := .slice a2 v.names.length c2) rfl
  have B1 := hide (bTr (unhide B0) hb1)
  have q2 := hide (heldStr_own (.slice a2 v.names.length c2) v.names.length (1 + v.items.length * 4) w1 (by omega) (by omega) (by omega) ((unhide M).keep hb1).n)
  have p1 : ¬ ((1 + v.items.length * 4 : Nat) : Int) < 0 := by omega
  have p1' : decide (((1 + v.items.length * 4 : Nat) : Int) < 0) = false := by simp; omega
  clear hb1 q1 R
  go_wp2_with fail
  refine (unhide q2).mono ?_
  rintro e w2 ⟨rfl, hb2⟩
  have B2 := hide (bTr (unhide B1) hb2)
  have p2 : ¬ ((1 + v.items.length * 4 + v.names.length : Nat) : Int) < 0 := by omega
  have p2' : decide (((1 + v.items.length * 4 + v.names.length : Nat) : Int) < 0) = false := by simp; omega
  clear hb2 q2
  go_wp2_with fail
  go_ret
  exact ⟨rfl, unhide B2⟩
end Go.Proofs.YticidjceljjfnaaGreatDoor.V
