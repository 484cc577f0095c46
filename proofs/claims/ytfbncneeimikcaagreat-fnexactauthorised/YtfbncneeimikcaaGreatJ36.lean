/- BMkX, OMk, one behind the other. -/
import Derived.Test.YtfbncneeimikcaaGreatJ35
import Derived.Test.YtfbncneeimikcaaGreatJ9
/- laws.markStringS, laws.heldStringS: a row of 1 cells an element. -/
namespace Go.Proofs.YtfbncneeimikcaaGreat.V
open Go.RowKit

def MCStr (C : Array Value) (o j : Nat) : Prop := C[o]? = some (.string (mt (j + 0)))
def MarkedStr (C : Array Value) (s n : Nat) : Prop := ∀ i, i < n → MCStr C (i) (s + i)
def MarksStr (w : World) (v : Value) (s n : Nat) : Prop := (v = .slice none 0 0 ∧ n = 0) ∨ ∃ g cap C, v = .slice (some ⟨g, 0, none⟩) n cap ∧ RowIs w g C 9 ∧ MarkedStr C s n
theorem MarksStr.keep {w w' : World} {v : Value} {s n : Nat} (h : MarksStr w v s n) (hb : Below w.heap.size w w') : MarksStr w' v s n :=
  h.imp_right fun ⟨g, cap, C, e, r, m⟩ => ⟨g, cap, C, e, r.keep hb, m⟩
theorem MarkedStr.set {C : Array Value} {s k j : Nat} (h : MarkedStr C s k) (hs : k + 0 < C.size) (hj : j = s + k) {V0 : Value} (e0 : V0 = .string (mt (j + 0))) : MarkedStr (C.setIfInBounds (k) (V0)) s (k + 1) := by
  intro i hi
  unfold MCStr
  by_cases e : i = k
  · subst e
    subst hj
    subst e0
    have s0 : i < C.size := by omega
    simp [s0]
  · have := h i (by omega)
    unfold MCStr at this
    simp only [Array.getElem?_setIfInBounds]
    repeat rw [if_neg (by omega)]
    exact this

set_option maxRecDepth 100000 in
set_option maxHeartbeats 4000000 in
theorem markStr_row (g n cap s : Nat) (C0 : Array Value) (w : World) (hn : n ≤ 1048576) (hs1 : 1 ≤ s) (hs9 : s ≤ 100000000) (hC : n ≤ C0.size) (hr : RowIs w g C0 9) :
    Calls Tryz.prog 15 #[.slice (some ⟨g, 0, none⟩) n cap, .int .i64 s] w fun e w' => e = .returned (.int .i64 ((s + n : Nat) : Int)) ∧ (∃ C, RowIs w' g C 9 ∧ MarkedStr C s n) ∧ w.grownBy w' (some g) := by
  have HR := hide hr
  clear hr
  go_enter Tryz.func15, Tryz.ntmps15
  go_wp2_with fail
  go_loopw [1, 5] (fun q i w' => ∃ (k j : Nat) (C : Array Value), k ≤ n ∧ i = .int .i64 k ∧ q = .int .i64 j ∧ 1 ≤ j ∧ j ≤ 200000000 ∧ Hid (j = s + k) ∧ Hid (RowIs w' g C 9) ∧ Hid (n ≤ C.size) ∧ Hid (MarkedStr C s k) ∧ Hid (w.grownBy w' (some g))) (fun _ i _ => n - (intOf i).toNat)
  case atStart => exact ⟨0, s, C0, Nat.zero_le _, rfl, rfl, hs1, by omega, hide (by omega), HR, hide hC, hide (fun i h => absurd h (Nat.not_lt_zero _)), hide (World.grownBy.refl _ _)⟩
  case round =>
    obtain ⟨k, j, C, hk, rfl, rfl, hj1, hj2, hj, hR, hCs, hM, hb⟩ := hrel
    by_cases hlt : k < n
    · have i0 : (0 : Int) ≤ (k : Int) := by omega
      have i1 : (k : Int) < (n : Int) := by omega
      have ej : j ≤ 109437184 := by have := unhide hj; omega
      have s9 : k + 0 < C.size := by have := unhide hCs; omega
      obtain ⟨X0, hX0⟩ : ∃ X, X = mt (j + 0) := ⟨_, rfl⟩
      have q0 : Hid (∀ w, Calls Tryz.prog 45 #[.int .i64 ((j : Int))] w fun e w' => e = .returned (.string X0) ∧ Below w.heap.size w w') := hide (fun w => by have := markText_any (j + 0) w (by omega) (by omega); rw [hX0]; rwa [show ((j + 0 : Nat) : Int) = (j : Int) by omega] at this)
      have stM := hide ((unhide hM).set (j := j) (V0 := .string X0) s9 (unhide hj) (by rw [hX0]))
      clear hX0
      have R0 := hR
      have B0 := hb
      clear hR hb hM
      go_wp2_with fail
      refine (unhide q0 _).mono ?_
      rintro e w1 ⟨rfl, hb0⟩
      have B0a := hide ((unhide B0).trans (gB (some g) hb0))
      have R0a := hide ((unhide R0).keep hb0)
      clear hb0 q0 R0 B0
      have f0 := (unhide R0a).froz (k)
      have g0 := (unhide R0a).cell (k)
      obtain ⟨D0, d0⟩ : ∃ D, (C)[k]? = some D := ⟨_, Array.getElem?_eq_getElem (by first | omega | (simp; omega))⟩
      rw [d0] at g0
      clear d0
      have R1 := hide ((unhide R0a).set (k) (.string X0))
      have B1 := hide ((unhide B0a).trans (gSet _ g (k) (.string X0)))
      clear R0a B0a
      go_wp2_with fail
      exact ⟨⟨k + 1, j + 1, _, by omega, by go_num, by go_num, by omega, by omega, hide (by have := unhide hj; omega), R1, hide (by simp; exact unhide hCs), stM, B1⟩, by simp [intOf]; omega⟩
    · have e : k = n := by omega
      have ej := hide (show j = s + n by rw [← e]; exact unhide hj)
      go_wp2_with fail
      go_ret
      exact ⟨by rw [unhide ej]; rfl, ⟨C, unhide hR, by rw [← e]; exact unhide hM⟩, unhide hb⟩

set_option maxRecDepth 100000 in
set_option maxHeartbeats 4000000 in
theorem heldStr_row (g n cap s : Nat) (C : Array Value) (w : World) (hn : n ≤ 1048576) (hs1 : 1 ≤ s) (hs9 : s ≤ 100000000) (hr : RowIs w g C 9) (hM : MarkedStr C s n) :
    Calls Tryz.prog 16 #[.slice (some ⟨g, 0, none⟩) n cap, .int .i64 s] w fun e w' => e = .returned (.int .i64 ((s + n : Nat) : Int)) ∧ Below w.heap.size w w' := by
  have HR := hide hr
  have HM := hide hM
  clear hr hM
  go_enter Tryz.func16, Tryz.ntmps16
  go_wp2_with fail
  go_loopw [1, 5] (fun q i w' => ∃ (k j : Nat), k ≤ n ∧ i = .int .i64 k ∧ q = .int .i64 j ∧ 1 ≤ j ∧ j ≤ 200000000 ∧ Hid (j = s + k) ∧ Hid (Below w.heap.size w w')) (fun _ i _ => n - (intOf i).toNat)
  case atStart => exact ⟨0, s, Nat.zero_le _, rfl, rfl, hs1, by omega, hide (by omega), hide (Below.refl _ _)⟩
  case round =>
    obtain ⟨k, j, hk, rfl, rfl, hj1, hj2, hj, hb⟩ := hrel
    by_cases hlt : k < n
    · have mk := unhide HM k hlt
      rw [← unhide hj] at mk
      unfold MCStr at mk
      have m0 := mk
      have i0 : (0 : Int) ≤ (k : Int) := by omega
      have i1 : (k : Int) < (n : Int) := by omega
      have ej : j ≤ 109437184 := by have := unhide hj; omega
      have R0 := (unhide HR).keep (unhide hb)
      have zr := R0.lt
      have c0 := R0.at m0
      clear R0 m0
      obtain ⟨X0, hX0⟩ : ∃ X, X = mt (j + 0) := ⟨_, rfl⟩
      have q0 : Hid (∀ w, Calls Tryz.prog 45 #[.int .i64 ((j : Int))] w fun e w' => e = .returned (.string X0) ∧ Below w.heap.size w w') := hide (fun w => by have := markText_any (j + 0) w (by omega) (by omega); rw [hX0]; rwa [show ((j + 0 : Nat) : Int) = (j : Int) by omega] at this)
      rw [← hX0] at c0
      clear hX0
      have B0 := hb
      clear hb
      have ne : Nonempty (Kept wr) := ⟨⟨wr, Below.refl _ _⟩⟩
      have e0 := kept_cell zr c0
      go_wp2_with fail
      refine wp_region_kept (by kernel_rfl) (by kernel_rfl) ?_
      repeat (first
        | go_big_quiet_step ((go_at_call 45; exact kept_call (unhide q0 _)))
        | quiet_step ((go_at_call 45; exact kept_call (unhide q0 _))))
      refine wpQuiet_nil ?_
      rintro _ ⟨q, rfl⟩
      clear ne e0 q0
      obtain ⟨w1, hb0⟩ := q
      clear c0
      replace zr := Nat.lt_of_lt_of_le zr hb0.size
      have B1 := hide (bTr (unhide B0) hb0)
      clear B0
      go_wp2_with fail
      exact ⟨⟨k + 1, j + 1, by omega, by go_num, by go_num, by omega, by omega, hide (by have := unhide hj; omega), B1⟩, by simp [intOf]; omega⟩
    · have e : k = n := by omega
      have ej := hide (show j = s + n by rw [← e]; exact unhide hj)
      go_wp2_with fail
      go_ret
      exact ⟨by rw [unhide ej]; rfl, unhide hb⟩

theorem markStr_own (v : Value) (n s : Nat) (xs : List Value) (base : Nat) (w : World) (hn : n ≤ 1048576) (hs1 : 1 ≤ s) (hs9 : s ≤ 100000000) (h : w.ownsRow base 9 1 v n xs) :
    Calls Tryz.prog 15 #[v, .int .i64 s] w fun e w' => e = .returned (.int .i64 ((s + n : Nat) : Int)) ∧ MarksStr w' v s n ∧ w.grownBy w' v.ownBlock := by
  rcases h.2 with ⟨rfl, e0⟩ | ⟨g, cap, cur, rfl, _, hh, hc, _, hsz, _⟩
  · go_enter Tryz.func15, Tryz.ntmps15
    go_wp2_with fail
    go_loopw [1, 5] (fun q i w' => i = .int .i64 0 ∧ q = .int .i64 s ∧ w = w') (fun _ _ _ => 0)
    case atStart => exact ⟨rfl, rfl, rfl⟩
    case round =>
      obtain ⟨rfl, rfl, rfl⟩ := hrel
      go_wp2_with fail
      go_ret
      exact ⟨by rw [e0]; simp, .inl ⟨rfl, e0⟩, World.grownBy.refl _ _⟩
  · have hr : RowIs w g cur 9 := hh
    refine (markStr_row g n cap s cur w hn hs1 hs9 (by rw [hsz]; omega) hr).mono ?_
    rintro e w' ⟨rfl, ⟨C, hr', hM⟩, hb⟩
    exact ⟨rfl, .inr ⟨g, cap, C, rfl, hr', hM⟩, hb⟩
theorem heldStr_own (v : Value) (n s : Nat) (w : World) (hn : n ≤ 1048576) (hs1 : 1 ≤ s) (hs9 : s ≤ 100000000) (h : MarksStr w v s n) :
    Calls Tryz.prog 16 #[v, .int .i64 s] w fun e w' => e = .returned (.int .i64 ((s + n : Nat) : Int)) ∧ Below w.heap.size w w' := by
  rcases h with ⟨rfl, rfl⟩ | ⟨g, cap, C, rfl, hr, hM⟩
  · go_enter Tryz.func16, Tryz.ntmps16
    go_wp2_with fail
    go_loop [1, 5] (fun q i => i = .int .i64 0 ∧ q = .int .i64 s) (fun _ _ => 0)
    case atStart => exact ⟨rfl, rfl⟩
    case round =>
      obtain ⟨rfl, rfl⟩ := hrel
      go_wp2_with fail
      go_ret
      exact ⟨by simp, Below.refl _ _⟩
  · exact heldStr_row g n cap s C w hn hs1 hs9 hr hM
end Go.Proofs.YtfbncneeimikcaaGreat.V
/- laws.markStringS, markRoleS, markApartS, markRoleSet: the kinds of the cells stay, slices stay; no block outside [lo, hi) is touched. -/
namespace Go.Proofs.YtfbncneeimikcaaGreat.V
set_option linter.unusedSimpArgs false
set_option linter.unusedVariables false
open Go.RowKit

inductive SameKind : Value → Value → Prop
  | int (x y : Int) : SameKind (.int .i64 x) (.int .i64 y)
  | str (x y : ByteArray) : SameKind (.string x) (.string y)
  | bool (x y : Bool) : SameKind (.bool x) (.bool y)
  | same (v : Value) : SameKind v v
theorem SameKind.trans {a b c : Value} (h : SameKind a b) (k : SameKind b c) : SameKind a c := by
  cases h with
  | int x y => cases k with
    | int _ z => exact .int _ _
    | same => exact .int _ _
  | str x y => cases k with
    | str _ z => exact .str _ _
    | same => exact .str _ _
  | bool x y => cases k with
    | bool _ z => exact .bool _ _
    | same => exact .bool _ _
  | same => exact k
theorem SameKind.int_inv {x : Int} {v : Value} (h : SameKind (.int .i64 x) v) : ∃ y, v = .int .i64 y := by
  cases h with
  | int _ y => exact ⟨y, rfl⟩
  | same => exact ⟨x, rfl⟩
theorem SameKind.str_inv {x : ByteArray} {v : Value} (h : SameKind (.string x) v) : ∃ y, v = .string y := by
  cases h with
  | str _ y => exact ⟨y, rfl⟩
  | same => exact ⟨x, rfl⟩
theorem SameKind.bool_inv {x : Bool} {v : Value} (h : SameKind (.bool x) v) : ∃ y, v = .bool y := by
  cases h with
  | bool _ y => exact ⟨y, rfl⟩
  | same => exact ⟨x, rfl⟩
theorem SameKind.sl_inv {a : Option Addr} {n c : Nat} {v : Value} (h : SameKind (.slice a n c) v) : v = .slice a n c := by
  cases h with
  | same => rfl
structure Mk (lo hi : Nat) (w w' : World) : Prop where
  b : Below lo w w'
  up : ∀ b, hi ≤ b → b < w.heap.size → w'.heap[b]? = w.heap[b]?
  cell : ∀ b o v, w.cell? ⟨b, o, none⟩ = some v → ∃ v', w'.cell? ⟨b, o, none⟩ = some v' ∧ SameKind v v'
  froz : ∀ b o, b < w.heap.size → w.frozen? ⟨b, o, none⟩ = false → w'.frozen? ⟨b, o, none⟩ = false
theorem Mk.refl (lo hi : Nat) (w : World) : Mk lo hi w w := ⟨Below.refl _ _, fun _ _ _ => rfl, fun _ _ v h => ⟨v, h, .same v⟩, fun _ _ _ h => h⟩
theorem Mk.trans {lo hi : Nat} {a b c : World} (h : Mk lo hi a b) (k : Mk lo hi b c) : Mk lo hi a c :=
  ⟨h.b.trans k.b, fun q h1 h2 => (k.up q h1 (Nat.lt_of_lt_of_le h2 h.b.size)).trans (h.up q h1 h2), fun q o v e => by
    obtain ⟨v1, e1, s1⟩ := h.cell q o v e
    obtain ⟨v2, e2, s2⟩ := k.cell q o v1 e1
    exact ⟨v2, e2, s1.trans s2⟩, fun q o h1 h2 => k.froz q o (Nat.lt_of_lt_of_le h1 h.b.size) (h.froz q o h1 h2)⟩
theorem Mk.below {lo hi : Nat} {w w' : World} (hlo : lo ≤ w.heap.size) (h : Below w.heap.size w w') : Mk lo hi w w' :=
  ⟨h.mono hlo, fun q _ h2 => h.block q h2, fun q o v e => ⟨v, cellB h (World.block_lt_of_cell? w ⟨q, o, none⟩ e) e, .same v⟩, fun q o h1 h2 => by rw [froz_block (h.block q h1)]; exact h2⟩
theorem froz_set (w : World) (a : Addr) (v : Value) (b o : Nat) : (w.setCell a v).frozen? ⟨b, o, none⟩ = w.frozen? ⟨b, o, none⟩ := by
  by_cases h : b = a.block
  · subst h
    unfold World.frozen? World.setCell
    simp only
    rw [Array.getElem?_modify]
    simp only [if_true]
    cases hq : w.heap[a.block]? with
    | none => rfl
    | some ob => cases ob <;> rfl
  · exact froz_block (heap_setCell_other w a b v h) o
theorem Mk.set {lo hi : Nat} (w : World) {b o : Nat} {v u : Value} (h1 : lo ≤ b) (h2 : b < hi) (hc : w.cell? ⟨b, o, none⟩ = some v) (hs : SameKind v u) : Mk lo hi w (w.setCell ⟨b, o, none⟩ u) :=
  ⟨(Below.refl lo w).setCell h1 u, fun q h3 _ => heap_setCell_other w ⟨b, o, none⟩ q u (show q ≠ b from fun e => by omega), fun q o' x e => by
    by_cases he : (⟨b, o, none⟩ : Addr) = ⟨q, o', none⟩
    · rw [← he] at e ⊢
      rw [hc] at e
      cases e
      exact ⟨u, World.cell?_setCell_same _ _ _ hc, hs⟩
    · exact ⟨x, by rw [World.cell?_setCell_other _ _ _ _ he]; exact e, .same x⟩, fun q o' _ h => by rw [froz_set]; exact h⟩
theorem Mk.sets {lo hi : Nat} {w0 w : World} (m : Mk lo hi w0 w) {b o : Nat} {v u : Value} (h1 : lo ≤ b) (h2 : b < hi) (hc : w.cell? ⟨b, o, none⟩ = some v) (hs : SameKind v u) : Mk lo hi w0 (w.setCell ⟨b, o, none⟩ u) := m.trans (Mk.set w h1 h2 hc hs)
def IntC (w : World) (b o : Nat) : Prop := ∃ x, w.cell? ⟨b, o, none⟩ = some (.int .i64 x)
def StrC (w : World) (b o : Nat) : Prop := ∃ x, w.cell? ⟨b, o, none⟩ = some (.string x)
theorem IntC.mv {lo hi : Nat} {w w' : World} {b o : Nat} (h : IntC w b o) (m : Mk lo hi w w') : IntC w' b o := by
  obtain ⟨x, e⟩ := h
  obtain ⟨v, e1, s⟩ := m.cell _ _ _ e
  obtain ⟨y, rfl⟩ := s.int_inv
  exact ⟨y, e1⟩
theorem StrC.mv {lo hi : Nat} {w w' : World} {b o : Nat} (h : StrC w b o) (m : Mk lo hi w w') : StrC w' b o := by
  obtain ⟨x, e⟩ := h
  obtain ⟨v, e1, s⟩ := m.cell _ _ _ e
  obtain ⟨y, rfl⟩ := s.str_inv
  exact ⟨y, e1⟩
theorem sl_mk {lo hi : Nat} {w w' : World} {b o : Nat} {a : Option Addr} {n c : Nat} (h : w.cell? ⟨b, o, none⟩ = some (.slice a n c)) (m : Mk lo hi w w') : w'.cell? ⟨b, o, none⟩ = some (.slice a n c) := by
  obtain ⟨v, e1, s⟩ := m.cell _ _ _ h
  rw [s.sl_inv] at e1
  exact e1
/-- Where a row that may be written into lies. -/
structure In (w : World) (lo hi b : Nat) : Prop where
  l : lo ≤ b
  u : b < hi
  z : hi ≤ w.heap.size
  f : ∀ o, w.frozen? ⟨b, o, none⟩ = false
theorem In.mv {w w' : World} {lo hi b : Nat} (h : In w lo hi b) (m : Mk lo hi w w') : In w' lo hi b := ⟨h.l, h.u, Nat.le_trans h.z m.b.size, fun o => m.froz b o (Nat.lt_of_lt_of_le h.u h.z) (h.f o)⟩
theorem Lo.in {w : World} {lo b : Nat} (h : Lo w lo b) (h0 : 0 < lo) (hz : b < w.heap.size) : In w lo w.heap.size b := ⟨h.1, hz, Nat.le_refl _, h.2 h0⟩

structure RowSW (w : World) (lo hi b off n : Nat) : Prop where
  i : In w lo hi b
  c0 : ∀ i, i < n → StrC w b (off + i)
def ShS (w : World) (lo hi : Nat) (h : Hd) : Prop := h.len = 0 ∨ ∃ b off, h.a = some ⟨b, off, none⟩ ∧ RowSW w lo hi b off h.len
theorem RowSW.mv {w w' : World} {lo hi b off n : Nat} (h : RowSW w lo hi b off n) (m : Mk lo hi w w') : RowSW w' lo hi b off n :=
  ⟨h.i.mv m, fun i hi => (h.c0 i hi).mv m⟩
theorem ShS.mv {w w' : World} {lo hi : Nat} {h : Hd} (s : ShS w lo hi h) (m : Mk lo hi w w') : ShS w' lo hi h := s.imp id fun ⟨b, off, e, r⟩ => ⟨b, off, e, r.mv m⟩
set_option maxRecDepth 100000 in
set_option maxHeartbeats 4000000 in
theorem markS_w (lo hi : Nat) (h : Hd) (s : Nat) (w : World) (hlo : lo ≤ w.heap.size) (hn : h.len ≤ 1048576) (hs1 : 1 ≤ s) (hs9 : s + h.len * 1 ≤ 9000000000000000000) (hs : ShS w lo hi h) :
    Calls Tryz.prog 15 #[.slice h.a h.len h.cap, .int .i64 s] w fun e w' => (∃ m : Nat, e = .returned (.int .i64 m) ∧ s ≤ m ∧ m ≤ s + h.len * 1) ∧ Mk lo hi w w' := by
  obtain ⟨a, n, cap⟩ := h
  simp only at hn hs9 ⊢
  have HS := hide hs
  have HLO := hide hlo
  clear hs hlo
  go_enter Tryz.func15, Tryz.ntmps15
  go_wp2_with fail
  go_loopw [1, 5] (fun q i w' => ∃ (k j : Nat), k ≤ n ∧ i = .int .i64 k ∧ q = .int .i64 j ∧ 1 ≤ j ∧ Hid (s ≤ j ∧ j ≤ s + k * 1) ∧ Hid (Mk lo hi w w')) (fun _ i _ => n - (Go.RowKit.intOf i).toNat)
  case atStart => exact ⟨0, s, Nat.zero_le _, rfl, rfl, hs1, hide (by omega), hide (Mk.refl _ _ _)⟩
  case round =>
    obtain ⟨k, j, hk, rfl, rfl, hj1, hj, hM⟩ := hrel
    by_cases hlt : k < n
    · have i0 : (0 : Int) ≤ (k : Int) := by omega
      have i1 : (k : Int) < (n : Int) := by omega
      have hjb : j + 1 ≤ 9000000000000000000 := by have := (unhide hj).2; omega
      have HSr : Hid (ShS wr lo hi ⟨a, n, cap⟩) := hide ((unhide HS).mv (unhide hM))
      rcases unhide HSr with e | ⟨b, off, e, R⟩
      · exact absurd e (by simp only; omega)
      simp only at e
      subst e
      have R0 := hide R
      have hlo' : Hid (lo ≤ wr.heap.size) := hide (Nat.le_trans (unhide HLO) (unhide hM).b.size)
      have M0 : Hid (Mk lo hi wr wr) := hide (Mk.refl _ _ _)
      clear R HSr
      have q0 : Hid (∀ w, ∃ X, Calls Tryz.prog 45 #[.int .i64 ((j : Int))] w fun e w' => e = .returned (.string X) ∧ Below w.heap.size w w') := hide (fun w => ⟨_, by have := markText_any (j + 0) w (by omega) (by omega); rwa [show ((j + 0 : Nat) : Int) = (j : Int) by omega] at this⟩)
      have M1 := M0
      clear M0
      obtain ⟨X0, qx0⟩ := unhide q0 wr
      have Q0 := hide qx0
      clear q0 qx0
      go_wp2_with fail
      refine (unhide Q0).mono ?_
      rintro e v0 ⟨rfl, hb0⟩
      have N0 : Hid (Mk lo hi wr v0) := hide ((unhide M1).trans (Mk.below (Nat.le_trans (unhide hlo') (unhide M1).b.size) hb0))
      have R100 := hide ((unhide R0).mv (unhide N0))
      clear hb0 Q0 M1
      have f0 := (unhide R100).i.f (off + k)
      obtain ⟨D0, g0⟩ := (unhide R100).c0 k hlt
      have M200 : Hid (Mk lo hi wr (v0.setCell ⟨b, off + k, none⟩ (.string X0))) := hide ((unhide N0).sets (unhide R100).i.l (unhide R100).i.u g0 (.str _ _))
      clear N0
      go_wp2_with fail
      exact ⟨⟨k + 1, j + 1, by omega, by go_num, by go_num, by omega, hide (by have := unhide hj; omega), hide ((unhide hM).trans (unhide M200))⟩, by simp [Go.RowKit.intOf]; omega⟩
    · have e : k = n := by omega
      have ej := hide (show s ≤ j ∧ j ≤ s + n * 1 by rw [← e]; exact unhide hj)
      go_wp2_with fail
      go_ret
      exact ⟨⟨j, rfl, (unhide ej).1, (unhide ej).2⟩, unhide hM⟩
structure RowRW (w : World) (lo hi b off n : Nat) : Prop where
  i : In w lo hi b
  c0 : ∀ i, i < n → StrC w b (off + i * 3)
  c1 : ∀ i, i < n → ∃ h : Hd, w.cell? ⟨b, off + i * 3 + 1, none⟩ = some (.slice h.a h.len h.cap) ∧ h.len ≤ 1048576 ∧ ShS w lo hi h
  c2 : ∀ i, i < n → ∃ h : Hd, w.cell? ⟨b, off + i * 3 + 2, none⟩ = some (.slice h.a h.len h.cap) ∧ h.len ≤ 1048576 ∧ ShS w lo hi h
def ShR (w : World) (lo hi : Nat) (h : Hd) : Prop := h.len = 0 ∨ ∃ b off, h.a = some ⟨b, off, none⟩ ∧ RowRW w lo hi b off h.len
theorem RowRW.mv {w w' : World} {lo hi b off n : Nat} (h : RowRW w lo hi b off n) (m : Mk lo hi w w') : RowRW w' lo hi b off n :=
  ⟨h.i.mv m, fun i hi => (h.c0 i hi).mv m, fun i hi => by obtain ⟨q, e, l, s⟩ := h.c1 i hi; exact ⟨q, sl_mk e m, l, s.mv m⟩, fun i hi => by obtain ⟨q, e, l, s⟩ := h.c2 i hi; exact ⟨q, sl_mk e m, l, s.mv m⟩⟩
theorem ShR.mv {w w' : World} {lo hi : Nat} {h : Hd} (s : ShR w lo hi h) (m : Mk lo hi w w') : ShR w' lo hi h := s.imp id fun ⟨b, off, e, r⟩ => ⟨b, off, e, r.mv m⟩
set_option maxRecDepth 100000 in
set_option maxHeartbeats 4000000 in
theorem markR_w (lo hi : Nat) (h : Hd) (s : Nat) (w : World) (hlo : lo ≤ w.heap.size) (hn : h.len ≤ 1048576) (hs1 : 1 ≤ s) (hs9 : s + h.len * 2097153 ≤ 9000000000000000000) (hs : ShR w lo hi h) :
    Calls Tryz.prog 40 #[.slice h.a h.len h.cap, .int .i64 s] w fun e w' => (∃ m : Nat, e = .returned (.int .i64 m) ∧ s ≤ m ∧ m ≤ s + h.len * 2097153) ∧ Mk lo hi w w' := by
  obtain ⟨a, n, cap⟩ := h
  simp only at hn hs9 ⊢
  have HS := hide hs
  have HLO := hide hlo
  clear hs hlo
  go_enter Tryz.func40, Tryz.ntmps40
  go_wp2_with fail
  go_loopw [1, 5] (fun q i w' => ∃ (k j : Nat), k ≤ n ∧ i = .int .i64 k ∧ q = .int .i64 j ∧ 1 ≤ j ∧ Hid (s ≤ j ∧ j ≤ s + k * 2097153) ∧ Hid (Mk lo hi w w')) (fun _ i _ => n - (Go.RowKit.intOf i).toNat)
  case atStart => exact ⟨0, s, Nat.zero_le _, rfl, rfl, hs1, hide (by omega), hide (Mk.refl _ _ _)⟩
  case round =>
    obtain ⟨k, j, hk, rfl, rfl, hj1, hj, hM⟩ := hrel
    by_cases hlt : k < n
    · have i0 : (0 : Int) ≤ (k : Int) := by omega
      have i1 : (k : Int) < (n : Int) := by omega
      have hjb : j + 2097153 ≤ 9000000000000000000 := by have := (unhide hj).2; omega
      have HSr : Hid (ShR wr lo hi ⟨a, n, cap⟩) := hide ((unhide HS).mv (unhide hM))
      rcases unhide HSr with e | ⟨b, off, e, R⟩
      · exact absurd e (by simp only; omega)
      simp only at e
      subst e
      have R0 := hide R
      have hlo' : Hid (lo ≤ wr.heap.size) := hide (Nat.le_trans (unhide HLO) (unhide hM).b.size)
      have M0 : Hid (Mk lo hi wr wr) := hide (Mk.refl _ _ _)
      clear R HSr
      have q0 : Hid (∀ w, ∃ X, Calls Tryz.prog 45 #[.int .i64 ((j : Int))] w fun e w' => e = .returned (.string X) ∧ Below w.heap.size w w') := hide (fun w => ⟨_, by have := markText_any (j + 0) w (by omega) (by omega); rwa [show ((j + 0 : Nat) : Int) = (j : Int) by omega] at this⟩)
      have M1 := M0
      clear M0
      obtain ⟨X0, qx0⟩ := unhide q0 wr
      have Q0 := hide qx0
      clear q0 qx0
      go_wp2_with fail
      refine (unhide Q0).mono ?_
      rintro e v0 ⟨rfl, hb0⟩
      have N0 : Hid (Mk lo hi wr v0) := hide ((unhide M1).trans (Mk.below (Nat.le_trans (unhide hlo') (unhide M1).b.size) hb0))
      have R100 := hide ((unhide R0).mv (unhide N0))
      clear hb0 Q0 M1
      have f0 := (unhide R100).i.f (off + k * 3)
      obtain ⟨D0, g0⟩ := (unhide R100).c0 k hlt
      have M200 : Hid (Mk lo hi wr (v0.setCell ⟨b, off + k * 3, none⟩ (.string X0))) := hide ((unhide N0).sets (unhide R100).i.l (unhide R100).i.u g0 (.str _ _))
      clear N0
      obtain ⟨h1, d1, l1, s1'⟩ := (unhide R100).c1 k hlt
      have s1 := s1'.mv (Mk.set v0 (unhide R100).i.l (unhide R100).i.u g0 (u := .string X0) (.str _ _))
      clear s1'
      have Q1 := hide (markS_w lo hi h1 (j + 1) _ (Nat.le_trans (unhide hlo') (unhide M200).b.size) l1 (by omega) (by omega) s1)
      rw [show (((j + 1) : Nat) : Int) = (j : Int) + 1 by omega] at Q1
      clear s1
      go_wp2_with fail
      refine (unhide Q1).mono ?_
      rintro e u1 ⟨⟨m1, rfl, a1, b1⟩, mk1⟩
      have M301 : Hid (Mk lo hi wr u1) := hide ((unhide M200).trans mk1)
      clear mk1 Q1 M200 f0 g0 d1
      have S2 := hide ((unhide R0).mv (unhide M301))
      obtain ⟨h2, d2, l2, s2⟩ := (unhide S2).c2 k hlt
      have Q2 := hide (markS_w lo hi h2 m1 _ (Nat.le_trans (unhide hlo') (unhide M301).b.size) l2 (by omega) (by omega) s2)
      clear s2 S2
      go_wp2_with fail
      refine (unhide Q2).mono ?_
      rintro e u2 ⟨⟨m2, rfl, a2, b2⟩, mk2⟩
      have M302 : Hid (Mk lo hi wr u2) := hide ((unhide M301).trans mk2)
      clear mk2 Q2 M301 d2
      go_wp2_with fail
      exact ⟨⟨k + 1, m2, by omega, by go_num, rfl, by omega, hide (by have := unhide hj; omega), hide ((unhide hM).trans (unhide M302))⟩, by simp [Go.RowKit.intOf]; omega⟩
    · have e : k = n := by omega
      have ej := hide (show s ≤ j ∧ j ≤ s + n * 2097153 by rw [← e]; exact unhide hj)
      go_wp2_with fail
      go_ret
      exact ⟨⟨j, rfl, (unhide ej).1, (unhide ej).2⟩, unhide hM⟩
def BoolC (w : World) (b o : Nat) : Prop := ∃ x, w.cell? ⟨b, o, none⟩ = some (.bool x)
theorem BoolC.mv {lo hi : Nat} {w w' : World} {b o : Nat} (h : BoolC w b o) (m : Mk lo hi w w') : BoolC w' b o := by
  obtain ⟨x, e⟩ := h
  obtain ⟨v, e1, s⟩ := m.cell _ _ _ e
  obtain ⟨y, rfl⟩ := s.bool_inv
  exact ⟨y, e1⟩
theorem Mk.sets2 {lo hi : Nat} {w0 w : World} (m : Mk lo hi w0 w) {b o : Nat} {v u : Value} (hi' : In w0 lo hi b) (hc : w.cell? ⟨b, o, none⟩ = some v) (hs : SameKind v u) : Mk lo hi w0 (w.setCell ⟨b, o, none⟩ u) := m.trans (Mk.set w hi'.l hi'.u hc hs)
theorem cellOff {w : World} {b o o' : Nat} {u v : Value} (h : w.cell? ⟨b, o, none⟩ = some v) (hn : o' ≠ o) : (w.setCell ⟨b, o', none⟩ u).cell? ⟨b, o, none⟩ = some v := by
  rw [World.cell?_setCell_other _ _ _ _ (fun e => hn (congrArg Addr.off e))]; exact h
structure RowPW (w : World) (lo hi b off n : Nat) : Prop where
  i : In w lo hi b
  c0 : ∀ i, i < n → ∃ h : Hd, w.cell? ⟨b, off + i * 3, none⟩ = some (.slice h.a h.len h.cap) ∧ h.len ≤ 1048576 ∧ ShS w lo hi h
  c1 : ∀ i, i < n → IntC w b (off + i * 3 + 1)
  c2 : ∀ i, i < n → BoolC w b (off + i * 3 + 2)
def ShP (w : World) (lo hi : Nat) (h : Hd) : Prop := h.len = 0 ∨ ∃ b off, h.a = some ⟨b, off, none⟩ ∧ RowPW w lo hi b off h.len
theorem RowPW.mv {w w' : World} {lo hi b off n : Nat} (h : RowPW w lo hi b off n) (m : Mk lo hi w w') : RowPW w' lo hi b off n :=
  ⟨h.i.mv m, fun i hi => by obtain ⟨q, e, l, s⟩ := h.c0 i hi; exact ⟨q, sl_mk e m, l, s.mv m⟩, fun i hi => (h.c1 i hi).mv m, fun i hi => (h.c2 i hi).mv m⟩
theorem ShP.mv {w w' : World} {lo hi : Nat} {h : Hd} (s : ShP w lo hi h) (m : Mk lo hi w w') : ShP w' lo hi h := s.imp id fun ⟨b, off, e, r⟩ => ⟨b, off, e, r.mv m⟩
set_option maxRecDepth 100000 in
set_option maxHeartbeats 8000000 in
theorem markP_w (lo hi : Nat) (h : Hd) (s : Nat) (w : World) (hlo : lo ≤ w.heap.size) (hn : h.len ≤ 1048576) (hs1 : 1 ≤ s) (hs9 : s + h.len * 1048578 ≤ 9000000000000000000) (hs : ShP w lo hi h) :
    Calls Tryz.prog 41 #[.slice h.a h.len h.cap, .int .i64 s] w fun e w' => (∃ m : Nat, e = .returned (.int .i64 m) ∧ s ≤ m ∧ m ≤ s + h.len * 1048578) ∧ Mk lo hi w w' := by
  obtain ⟨a, n, cap⟩ := h
  simp only at hn hs9 ⊢
  have HS := hide hs
  have HLO := hide hlo
  clear hs hlo
  go_enter Tryz.func41, Tryz.ntmps41
  go_wp2_with fail
  go_loopw [1, 5] (fun q i w' => ∃ (k j : Nat), k ≤ n ∧ i = .int .i64 k ∧ q = .int .i64 j ∧ 1 ≤ j ∧ Hid (s ≤ j ∧ j ≤ s + k * 1048578) ∧ Hid (Mk lo hi w w')) (fun _ i _ => n - (Go.RowKit.intOf i).toNat)
  case atStart => exact ⟨0, s, Nat.zero_le _, rfl, rfl, hs1, hide (by omega), hide (Mk.refl _ _ _)⟩
  case round =>
    obtain ⟨k, j, hk, rfl, rfl, hj1, hj, hM⟩ := hrel
    by_cases hlt : k < n
    · have i0 : (0 : Int) ≤ (k : Int) := by omega
      have i1 : (k : Int) < (n : Int) := by omega
      have hjb : j + 1048578 ≤ 9000000000000000000 := by have := (unhide hj).2; omega
      have HSr : Hid (ShP wr lo hi ⟨a, n, cap⟩) := hide ((unhide HS).mv (unhide hM))
      rcases unhide HSr with e | ⟨b, off, e, R⟩
      · exact absurd e (by simp only; omega)
      simp only at e
      subst e
      have R0 := hide R
      have hlo' : Hid (lo ≤ wr.heap.size) := hide (Nat.le_trans (unhide HLO) (unhide hM).b.size)
      clear R HSr
      obtain ⟨h0, d0, l0, s0⟩ := (unhide R0).c0 k hlt
      have Q0 := hide (markS_w lo hi h0 j wr (unhide hlo') l0 (by omega) (by omega) s0)
      clear s0
      go_wp2_with fail
      refine (unhide Q0).mono ?_
      rintro e u0 ⟨⟨m0, rfl, a0, b0⟩, mk0⟩
      have M0 := hide mk0
      have R1 := hide ((unhide R0).mv mk0)
      clear mk0 Q0 d0
      have f1 := (unhide R1).i.f (off + k * 3 + 1)
      obtain ⟨D1, g1⟩ := (unhide R1).c1 k hlt
      have f2 := (unhide R1).i.f (off + k * 3 + 2)
      obtain ⟨D2, g2⟩ := (unhide R1).c2 k hlt
      go_wp2_with fail
      exact ⟨⟨k + 1, m0 + 2, by omega, by go_num, by go_num, by omega, hide (by have := unhide hj; omega), hide ((unhide hM).trans (Mk.sets2 (Mk.sets2 (unhide M0) (unhide R0).i g1 (.int _ _)) (unhide R0).i (cellOff g2 (by omega)) (.bool _ _)))⟩, by simp [Go.RowKit.intOf]; omega⟩
    · have e : k = n := by omega
      have ej := hide (show s ≤ j ∧ j ≤ s + n * 1048578 by rw [← e]; exact unhide hj)
      go_wp2_with fail
      go_ret
      exact ⟨⟨j, rfl, (unhide ej).1, (unhide ej).2⟩, unhide hM⟩
theorem Mk.row {lo hi : Nat} {w w' : World} (m : Mk lo hi w w') {b : Nat} {C : Array Value} {T : TypeId} (hb : hi ≤ b) (h : RowIs w b C T) : RowIs w' b C T := by
  have hl := h.lt
  unfold RowIs at *; rw [m.up b hb hl]; exact h
set_option maxHeartbeats 2000000 in
theorem markRS_w (lo hi : Nat) (h0 h1 h2 : Hd) (w : World) (hlo : lo ≤ hi) (hhi : hi ≤ w.heap.size) (n0 : h0.len ≤ 1048576) (n1 : h1.len ≤ 1048576) (n2 : h2.len ≤ 1048576) (s0 : ShR w lo hi h0) (s1 : ShP w lo hi h1) (s2 : ShS w lo hi h2) :
    Calls Tryz.prog 13 #[.agg #[.slice h0.a h0.len h0.cap, .slice h1.a h1.len h1.cap, .slice h2.a h2.len h2.cap], .int .i64 1] w fun e w' => (∃ m : Nat, e = .returned (.int .i64 m) ∧ 1 ≤ m) ∧ Mk lo hi w w' := by
  obtain ⟨W, hW⟩ : ∃ W, W = w.alloc (.cells #[.slice h0.a h0.len h0.cap, .slice h1.a h1.len h1.cap, .slice h2.a h2.len h2.cap] 38) := ⟨_, rfl⟩
  have bW : Below w.heap.size w W := by rw [hW]; exact bAl (Below.refl _ _) _
  have R := hide (show RowIs W w.heap.size #[.slice h0.a h0.len h0.cap, .slice h1.a h1.len h1.cap, .slice h2.a h2.len h2.cap] 38 by rw [hW]; exact RowIs.new w _ _)
  have M := hide (Mk.below (lo := lo) (hi := hi) (Nat.le_trans hlo hhi) bW)
  have S1 := hide (s1.mv (unhide M))
  have S2 := hide (s2.mv (unhide M))
  have q0 := hide (markR_w lo hi h0 1 W (Nat.le_trans (Nat.le_trans hlo hhi) bW.size) n0 (by omega) (by omega) (s0.mv (unhide M)))
  have zW : lo ≤ W.heap.size := Nat.le_trans (Nat.le_trans hlo hhi) bW.size
  have HW := hide hW.symm
  clear hW bW s0 s1 s2
  go_enter Tryz.func13, Tryz.ntmps13
  go_wp2_with fail
  rw [unhide HW]
  refine (unhide q0).mono ?_
  rintro e w1 ⟨⟨m1, rfl, a1, b1⟩, mk⟩
  replace R := hide (mk.row hhi (unhide R))
  replace M := hide ((unhide M).trans mk)
  replace S1 := hide ((unhide S1).mv mk)
  replace S2 := hide ((unhide S2).mv mk)
  have q1 := hide (markP_w lo hi h1 m1 w1 (Nat.le_trans zW mk.b.size) n1 (by omega) (by omega) (unhide S1))
  have z1 : lo ≤ w1.heap.size := Nat.le_trans zW mk.b.size
  clear mk q0 HW S1
  have c1 := (unhide R).at (o := 1) (v := .slice h1.a h1.len h1.cap) rfl
  go_wp2_with fail
  refine (unhide q1).mono ?_
  rintro e w2 ⟨⟨m2, rfl, a2, b2⟩, mk⟩
  replace R := hide (mk.row hhi (unhide R))
  replace M := hide ((unhide M).trans mk)
  replace S2 := hide ((unhide S2).mv mk)
  have q2 := hide (markS_w lo hi h2 m2 w2 (Nat.le_trans z1 mk.b.size) n2 (by omega) (by omega) (unhide S2))
  clear mk q1 S2 c1
  have c2 := (unhide R).at (o := 2) (v := .slice h2.a h2.len h2.cap) rfl
  go_wp2_with fail
  refine (unhide q2).mono ?_
  rintro e w3 ⟨⟨m3, rfl, a3, b3⟩, mk⟩
  replace M := hide ((unhide M).trans mk)
  clear mk q2 c2 R
  go_wp2_with fail
  go_ret
  exact ⟨⟨m3, rfl, by omega⟩, unhide M⟩
theorem shS_of {w : World} {lo : Nat} {h : Hd} {l : List ByteArray} (s : SqS w lo h l) (h0 : 0 < lo) : ShS w lo w.heap.size h := by
  rcases s.2 with e | ⟨b, off, e, hl, r⟩
  · exact .inl (by rw [s.1, e]; rfl)
  · refine .inr ⟨b, off, e, hl.in h0 r.z, ?_⟩
    intro i hi
    rw [s.1] at hi
    exact ⟨_, r.c i hi⟩
theorem shR_of {w : World} {lo : Nat} {h : Hd} {xs : List RoleT} (s : SqRole w lo h xs) (hm : ∀ q ∈ xs, RoleSm q) (h0 : 0 < lo) : ShR w lo w.heap.size h := by
  obtain ⟨l, rfl, s⟩ := s
  rcases s.2.1 with e | ⟨b, off, e, hl, r⟩
  · exact .inl (by rw [s.1, e]; rfl)
  · refine .inr ⟨b, off, e, hl.in h0 r.z, ?_, ?_, ?_⟩ <;> intro i hi <;> rw [s.1] at hi
    · exact ⟨_, r.c0 i hi⟩
    · have m := s.2.2 _ (List.getElem_mem hi)
      have z := hm _ (List.mem_map_of_mem (List.getElem_mem hi))
      exact ⟨_, r.c1 i hi, by rw [m.m1.1]; exact z.l1, shS_of m.m1 h0⟩
    · have m := s.2.2 _ (List.getElem_mem hi)
      have z := hm _ (List.mem_map_of_mem (List.getElem_mem hi))
      exact ⟨_, r.c2 i hi, by rw [m.m2.1]; exact z.l2, shS_of m.m2 h0⟩
theorem shP_of {w : World} {lo : Nat} {h : Hd} {xs : List ApartT} (s : SqApart w lo h xs) (hm : ∀ q ∈ xs, ApartSm q) (h0 : 0 < lo) : ShP w lo w.heap.size h := by
  obtain ⟨l, rfl, s⟩ := s
  rcases s.2.1 with e | ⟨b, off, e, hl, r⟩
  · exact .inl (by rw [s.1, e]; rfl)
  · refine .inr ⟨b, off, e, hl.in h0 r.z, ?_, ?_, ?_⟩ <;> intro i hi <;> rw [s.1] at hi
    · have m := s.2.2 _ (List.getElem_mem hi)
      have z := hm _ (List.mem_map_of_mem (List.getElem_mem hi))
      exact ⟨_, r.c0 i hi, by rw [m.m0.1]; exact z.l0, shS_of m.m0 h0⟩
    · exact ⟨_, r.c1 i hi⟩
    · exact ⟨_, r.c2 i hi⟩
theorem own_mk {lo hi : Nat} {w w' : World} {base e size n : Nat} {v : Value} {xs : List Value} (h : w.ownsRow base e size v n xs) (m : Mk lo hi w w') (hg : ∀ g, v.ownBlock = some g → g < lo ∨ hi ≤ g) : w'.ownsRow base e size v n xs := by
  refine ⟨h.1, h.2.imp id ?_⟩
  rintro ⟨g, cap, cur, rfl, h1, h2, h3⟩
  have hl := (Array.getElem?_eq_some_iff.1 h2).1
  refine ⟨g, cap, cur, rfl, h1, ?_, h3⟩
  rcases hg g rfl with k | k
  · rw [m.b.block g k]; exact h2
  · rw [m.up g k hl]; exact h2
end Go.Proofs.YtfbncneeimikcaaGreat.V
