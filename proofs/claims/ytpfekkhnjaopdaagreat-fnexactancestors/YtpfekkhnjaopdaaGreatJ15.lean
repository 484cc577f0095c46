/- NMk, SPur, one behind the other. -/
import Derived.Test.YtpfekkhnjaopdaaGreatJ11
import Derived.Test.YtpfekkhnjaopdaaGreatJ14
import Derived.Test.YtpfekkhnjaopdaaGreatJ7
/- laws.markAtomS, markStringS, markValueS, markThingS: the kinds of the cells stay, slices stay; no block outside [lo, hi) is touched. -/
namespace Go.Proofs.YtpfekkhnjaopdaaGreat.V
set_option linter.unusedSimpArgs false
set_option linter.unusedVariables false
open Go.RowKit

inductive SameKind : Value → Value → Prop
  | int (x y : Int) : SameKind (.int .i64 x) (.int .i64 y)
  | str (x y : ByteArray) : SameKind (.string x) (.string y)
  | same (v : Value) : SameKind v v
theorem SameKind.trans {a b c : Value} (h : SameKind a b) (k : SameKind b c) : SameKind a c := by
  cases h with
  | int x y => cases k with
    | int _ z => exact .int _ _
    | same => exact .int _ _
  | str x y => cases k with
    | str _ z => exact .str _ _
    | same => exact .str _ _
  | same => exact k
theorem SameKind.int_inv {x : Int} {v : Value} (h : SameKind (.int .i64 x) v) : ∃ y, v = .int .i64 y := by
  cases h with
  | int _ y => exact ⟨y, rfl⟩
  | same => exact ⟨x, rfl⟩
theorem SameKind.str_inv {x : ByteArray} {v : Value} (h : SameKind (.string x) v) : ∃ y, v = .string y := by
  cases h with
  | str _ y => exact ⟨y, rfl⟩
  | same => exact ⟨x, rfl⟩
theorem SameKind.sl_inv {a : Option Addr} {n c : Nat} {v : Value} (h : SameKind (.slice a n c) v) : v = .slice a n c := by
  cases h with
  | same => rfl
structure Mk (lo hi : Nat) (w w' : World) : Prop where
  b : Below lo w w'
  up : ∀ b, hi ≤ b → b < w.heap.size → w'.heap[b]? = w.heap[b]?
  cell : ∀ b o v, w.cell? ⟨b, o, none⟩ = some v → ∃ v', w'.cell? ⟨b, o, none⟩ = some v' ∧ SameKind v v'
  froz : ∀ b o, b < w.heap.size → w.frozen? ⟨b, o, none⟩ = false → w'.frozen? ⟨b, o, none⟩ = false
theorem Mk.refl (lo hi : Nat) (w : World) : Mk lo hi w w := ⟨Below.refl _ _, fun _ _ _ => rfl, fun _ _ v h => ⟨v, h, .same v⟩, fun _ _ _ h => h⟩
theorem Mk.trans {lo hi : Nat} {a b c : World} (h : Mk lo hi a b) (k : Mk lo hi b c) : Mk lo hi a c :=
  ⟨h.b.trans k.b, fun q h1 h2 => (k.up q h1 (Nat.lt_of_lt_of_le h2 h.b.size)).trans (h.up q h1 h2), fun q o v e => by
    obtain ⟨v1, e1, s1⟩ := h.cell q o v e
    obtain ⟨v2, e2, s2⟩ := k.cell q o v1 e1
    exact ⟨v2, e2, s1.trans s2⟩, fun q o h1 h2 => k.froz q o (Nat.lt_of_lt_of_le h1 h.b.size) (h.froz q o h1 h2)⟩
theorem Mk.below {lo hi : Nat} {w w' : World} (hlo : lo ≤ w.heap.size) (h : Below w.heap.size w w') : Mk lo hi w w' :=
  ⟨h.mono hlo, fun q _ h2 => h.block q h2, fun q o v e => ⟨v, cellB h (World.block_lt_of_cell? w ⟨q, o, none⟩ e) e, .same v⟩, fun q o h1 h2 => by rw [froz_block (h.block q h1)]; exact h2⟩
theorem froz_set (w : World) (a : Addr) (v : Value) (b o : Nat) : (w.setCell a v).frozen? ⟨b, o, none⟩ = w.frozen? ⟨b, o, none⟩ := by
  by_cases h : b = a.block
  · subst h
    unfold World.frozen? World.setCell
    simp only
    rw [Array.getElem?_modify]
    simp only [if_true]
    cases hq : w.heap[a.block]? with
    | none => rfl
    | some ob => cases ob <;> rfl
  · exact froz_block (heap_setCell_other w a b v h) o
theorem Mk.set {lo hi : Nat} (w : World) {b o : Nat} {v u : Value} (h1 : lo ≤ b) (h2 : b < hi) (hc : w.cell? ⟨b, o, none⟩ = some v) (hs : SameKind v u) : Mk lo hi w (w.setCell ⟨b, o, none⟩ u) :=
  ⟨(Below.refl lo w).setCell h1 u, fun q h3 _ => heap_setCell_other w ⟨b, o, none⟩ q u (show q ≠ b from fun e => by omega), fun q o' x e => by
    by_cases he : (⟨b, o, none⟩ : Addr) = ⟨q, o', none⟩
    · rw [← he] at e ⊢
      rw [hc] at e
      cases e
      exact ⟨u, World.cell?_setCell_same _ _ _ hc, hs⟩
    · exact ⟨x, by rw [World.cell?_setCell_other _ _ _ _ he]; exact e, .same x⟩, fun q o' _ h => by rw [froz_set]; exact h⟩
theorem Mk.sets {lo hi : Nat} {w0 w : World} (m : Mk lo hi w0 w) {b o : Nat} {v u : Value} (h1 : lo ≤ b) (h2 : b < hi) (hc : w.cell? ⟨b, o, none⟩ = some v) (hs : SameKind v u) : Mk lo hi w0 (w.setCell ⟨b, o, none⟩ u) := m.trans (Mk.set w h1 h2 hc hs)
def IntC (w : World) (b o : Nat) : Prop := ∃ x, w.cell? ⟨b, o, none⟩ = some (.int .i64 x)
def StrC (w : World) (b o : Nat) : Prop := ∃ x, w.cell? ⟨b, o, none⟩ = some (.string x)
theorem IntC.mv {lo hi : Nat} {w w' : World} {b o : Nat} (h : IntC w b o) (m : Mk lo hi w w') : IntC w' b o := by
  obtain ⟨x, e⟩ := h
  obtain ⟨v, e1, s⟩ := m.cell _ _ _ e
  obtain ⟨y, rfl⟩ := s.int_inv
  exact ⟨y, e1⟩
theorem StrC.mv {lo hi : Nat} {w w' : World} {b o : Nat} (h : StrC w b o) (m : Mk lo hi w w') : StrC w' b o := by
  obtain ⟨x, e⟩ := h
  obtain ⟨v, e1, s⟩ := m.cell _ _ _ e
  obtain ⟨y, rfl⟩ := s.str_inv
  exact ⟨y, e1⟩
theorem sl_mk {lo hi : Nat} {w w' : World} {b o : Nat} {a : Option Addr} {n c : Nat} (h : w.cell? ⟨b, o, none⟩ = some (.slice a n c)) (m : Mk lo hi w w') : w'.cell? ⟨b, o, none⟩ = some (.slice a n c) := by
  obtain ⟨v, e1, s⟩ := m.cell _ _ _ h
  rw [s.sl_inv] at e1
  exact e1
/-- Where a row that may be written into lies. -/
structure In (w : World) (lo hi b : Nat) : Prop where
  l : lo ≤ b
  u : b < hi
  z : hi ≤ w.heap.size
  f : ∀ o, w.frozen? ⟨b, o, none⟩ = false
theorem In.mv {w w' : World} {lo hi b : Nat} (h : In w lo hi b) (m : Mk lo hi w w') : In w' lo hi b := ⟨h.l, h.u, Nat.le_trans h.z m.b.size, fun o => m.froz b o (Nat.lt_of_lt_of_le h.u h.z) (h.f o)⟩
theorem Lo.in {w : World} {lo b : Nat} (h : Lo w lo b) (h0 : 0 < lo) (hz : b < w.heap.size) : In w lo w.heap.size b := ⟨h.1, hz, Nat.le_refl _, h.2 h0⟩

structure RowAW (w : World) (lo hi b off n : Nat) : Prop where
  i : In w lo hi b
  c0 : ∀ i, i < n → IntC w b (off + i * 4)
  c1 : ∀ i, i < n → IntC w b (off + i * 4 + 1)
  c2 : ∀ i, i < n → StrC w b (off + i * 4 + 2)
  c3 : ∀ i, i < n → StrC w b (off + i * 4 + 3)
def ShA (w : World) (lo hi : Nat) (h : Hd) : Prop := h.len = 0 ∨ ∃ b off, h.a = some ⟨b, off, none⟩ ∧ RowAW w lo hi b off h.len
theorem RowAW.mv {w w' : World} {lo hi b off n : Nat} (h : RowAW w lo hi b off n) (m : Mk lo hi w w') : RowAW w' lo hi b off n :=
  ⟨h.i.mv m, fun i hi => (h.c0 i hi).mv m, fun i hi => (h.c1 i hi).mv m, fun i hi => (h.c2 i hi).mv m, fun i hi => (h.c3 i hi).mv m⟩
theorem ShA.mv {w w' : World} {lo hi : Nat} {h : Hd} (s : ShA w lo hi h) (m : Mk lo hi w w') : ShA w' lo hi h := s.imp id fun ⟨b, off, e, r⟩ => ⟨b, off, e, r.mv m⟩
set_option maxRecDepth 100000 in
set_option maxHeartbeats 4000000 in
theorem markA_w (lo hi : Nat) (h : Hd) (s : Nat) (w : World) (hlo : lo ≤ w.heap.size) (hn : h.len ≤ 1048576) (hs1 : 1 ≤ s) (hs9 : s + h.len * 4 ≤ 9000000000000000000) (hs : ShA w lo hi h) :
    Calls Tryz.prog 14 #[.slice h.a h.len h.cap, .int .i64 s] w fun e w' => (∃ m : Nat, e = .returned (.int .i64 m) ∧ s ≤ m ∧ m ≤ s + h.len * 4) ∧ Mk lo hi w w' := by
  obtain ⟨a, n, cap⟩ := h
  simp only at hn hs9 ⊢
  have HS := hide hs
  have HLO := hide hlo
  clear hs hlo
  go_enter Tryz.func14, Tryz.ntmps14
  go_wp2_with fail
  go_loopw [1, 5] (fun q i w' => ∃ (k j : Nat), k ≤ n ∧ i = .int .i64 k ∧ q = .int .i64 j ∧ 1 ≤ j ∧ Hid (s ≤ j ∧ j ≤ s + k * 4) ∧ Hid (Mk lo hi w w')) (fun _ i _ => n - (Go.RowKit.intOf i).toNat)
  case atStart => exact ⟨0, s, Nat.zero_le _, rfl, rfl, hs1, hide (by omega), hide (Mk.refl _ _ _)⟩
  case round =>
    obtain ⟨k, j, hk, rfl, rfl, hj1, hj, hM⟩ := hrel
    by_cases hlt : k < n
    · have i0 : (0 : Int) ≤ (k : Int) := by omega
      have i1 : (k : Int) < (n : Int) := by omega
      have hjb : j + 4 ≤ 9000000000000000000 := by have := (unhide hj).2; omega
      have HSr : Hid (ShA wr lo hi ⟨a, n, cap⟩) := hide ((unhide HS).mv (unhide hM))
      rcases unhide HSr with e | ⟨b, off, e, R⟩
      · exact absurd e (by simp only; omega)
      simp only at e
      subst e
      have R0 := hide R
      have hlo' : Hid (lo ≤ wr.heap.size) := hide (Nat.le_trans (unhide HLO) (unhide hM).b.size)
      have M0 : Hid (Mk lo hi wr wr) := hide (Mk.refl _ _ _)
      clear R HSr
      have q2 : Hid (∀ w, ∃ X, Calls Tryz.prog 33 #[.int .i64 ((j : Int) + 1 + 1)] w fun e w' => e = .returned (.string X) ∧ Below w.heap.size w w') := hide (fun w => ⟨_, by have := markText_any (j + 2) w (by omega) (by omega); rwa [show ((j + 2 : Nat) : Int) = (j : Int) + 1 + 1 by omega] at this⟩)
      have q3 : Hid (∀ w, ∃ X, Calls Tryz.prog 33 #[.int .i64 ((j : Int) + 1 + 1 + 1)] w fun e w' => e = .returned (.string X) ∧ Below w.heap.size w w') := hide (fun w => ⟨_, by have := markText_any (j + 3) w (by omega) (by omega); rwa [show ((j + 3 : Nat) : Int) = (j : Int) + 1 + 1 + 1 by omega] at this⟩)
      have f0 := (unhide R0).i.f (off + k * 4)
      obtain ⟨D0, g0⟩ := (unhide R0).c0 k hlt
      have f1 := (unhide R0).i.f (off + k * 4 + 1)
      obtain ⟨D1, g1⟩ := (unhide R0).c1 k hlt
      have M1 : Hid (Mk lo hi wr ((wr.setCell ⟨b, off + k * 4, none⟩ (.int .i64 ((j : Int)))).setCell ⟨b, off + k * 4 + 1, none⟩ (.int .i64 ((j : Int) + 1)))) := hide (((unhide M0).sets (unhide R0).i.l (unhide R0).i.u g0 (.int _ _)).sets (unhide R0).i.l (unhide R0).i.u (by rw [World.cell?_setCell_other _ _ _ _ (fun e => by have := congrArg Addr.off e; simp at this)]; exact g1) (.int _ _))
      clear M0
      obtain ⟨X2, qx2⟩ := unhide q2 ((wr.setCell ⟨b, off + k * 4, none⟩ (.int .i64 ((j : Int)))).setCell ⟨b, off + k * 4 + 1, none⟩ (.int .i64 ((j : Int) + 1)))
      have Q2 := hide qx2
      clear q2 qx2
      go_wp2_with fail
      refine (unhide Q2).mono ?_
      rintro e v2 ⟨rfl, hb2⟩
      have N2 : Hid (Mk lo hi wr v2) := hide ((unhide M1).trans (Mk.below (Nat.le_trans (unhide hlo') (unhide M1).b.size) hb2))
      have R102 := hide ((unhide R0).mv (unhide N2))
      clear hb2 Q2 M1 f0 g0 f1 g1
      have f2 := (unhide R102).i.f (off + k * 4 + 2)
      obtain ⟨D2, g2⟩ := (unhide R102).c2 k hlt
      have M202 : Hid (Mk lo hi wr (v2.setCell ⟨b, off + k * 4 + 2, none⟩ (.string X2))) := hide ((unhide N2).sets (unhide R102).i.l (unhide R102).i.u g2 (.str _ _))
      clear N2
      obtain ⟨X3, qx3⟩ := unhide q3 (v2.setCell ⟨b, off + k * 4 + 2, none⟩ (.string X2))
      have Q3 := hide qx3
      clear q3 qx3
      go_wp2_with fail
      refine (unhide Q3).mono ?_
      rintro e v3 ⟨rfl, hb3⟩
      have N3 : Hid (Mk lo hi wr v3) := hide ((unhide M202).trans (Mk.below (Nat.le_trans (unhide hlo') (unhide M202).b.size) hb3))
      have R103 := hide ((unhide R0).mv (unhide N3))
      clear hb3 Q3 M202 f2 g2
      have f3 := (unhide R103).i.f (off + k * 4 + 3)
      obtain ⟨D3, g3⟩ := (unhide R103).c3 k hlt
      have M203 : Hid (Mk lo hi wr (v3.setCell ⟨b, off + k * 4 + 3, none⟩ (.string X3))) := hide ((unhide N3).sets (unhide R103).i.l (unhide R103).i.u g3 (.str _ _))
      clear N3
      go_wp2_with fail
      exact ⟨⟨k + 1, j + 4, by omega, by go_num, by go_num, by omega, hide (by have := unhide hj; omega), hide ((unhide hM).trans (unhide M203))⟩, by simp [Go.RowKit.intOf]; omega⟩
    · have e : k = n := by omega
      have ej := hide (show s ≤ j ∧ j ≤ s + n * 4 by rw [← e]; exact unhide hj)
      go_wp2_with fail
      go_ret
      exact ⟨⟨j, rfl, (unhide ej).1, (unhide ej).2⟩, unhide hM⟩
structure RowSW (w : World) (lo hi b off n : Nat) : Prop where
  i : In w lo hi b
  c0 : ∀ i, i < n → StrC w b (off + i)
def ShS (w : World) (lo hi : Nat) (h : Hd) : Prop := h.len = 0 ∨ ∃ b off, h.a = some ⟨b, off, none⟩ ∧ RowSW w lo hi b off h.len
theorem RowSW.mv {w w' : World} {lo hi b off n : Nat} (h : RowSW w lo hi b off n) (m : Mk lo hi w w') : RowSW w' lo hi b off n :=
  ⟨h.i.mv m, fun i hi => (h.c0 i hi).mv m⟩
theorem ShS.mv {w w' : World} {lo hi : Nat} {h : Hd} (s : ShS w lo hi h) (m : Mk lo hi w w') : ShS w' lo hi h := s.imp id fun ⟨b, off, e, r⟩ => ⟨b, off, e, r.mv m⟩
set_option maxRecDepth 100000 in
set_option maxHeartbeats 4000000 in
theorem markS_w (lo hi : Nat) (h : Hd) (s : Nat) (w : World) (hlo : lo ≤ w.heap.size) (hn : h.len ≤ 1048576) (hs1 : 1 ≤ s) (hs9 : s + h.len * 1 ≤ 9000000000000000000) (hs : ShS w lo hi h) :
    Calls Tryz.prog 34 #[.slice h.a h.len h.cap, .int .i64 s] w fun e w' => (∃ m : Nat, e = .returned (.int .i64 m) ∧ s ≤ m ∧ m ≤ s + h.len * 1) ∧ Mk lo hi w w' := by
  obtain ⟨a, n, cap⟩ := h
  simp only at hn hs9 ⊢
  have HS := hide hs
  have HLO := hide hlo
  clear hs hlo
  go_enter Tryz.func34, Tryz.ntmps34
  go_wp2_with fail
  go_loopw [1, 5] (fun q i w' => ∃ (k j : Nat), k ≤ n ∧ i = .int .i64 k ∧ q = .int .i64 j ∧ 1 ≤ j ∧ Hid (s ≤ j ∧ j ≤ s + k * 1) ∧ Hid (Mk lo hi w w')) (fun _ i _ => n - (Go.RowKit.intOf i).toNat)
  case atStart => exact ⟨0, s, Nat.zero_le _, rfl, rfl, hs1, hide (by omega), hide (Mk.refl _ _ _)⟩
  case round =>
    obtain ⟨k, j, hk, rfl, rfl, hj1, hj, hM⟩ := hrel
    by_cases hlt : k < n
    · have i0 : (0 : Int) ≤ (k : Int) := by omega
      have i1 : (k : Int) < (n : Int) := by omega
      have hjb : j + 1 ≤ 9000000000000000000 := by have := (unhide hj).2; omega
      have HSr : Hid (ShS wr lo hi ⟨a, n, cap⟩) := hide ((unhide HS).mv (unhide hM))
      rcases unhide HSr with e | ⟨b, off, e, R⟩
      · exact absurd e (by simp only; omega)
      simp only at e
      subst e
      have R0 := hide R
      have hlo' : Hid (lo ≤ wr.heap.size) := hide (Nat.le_trans (unhide HLO) (unhide hM).b.size)
      have M0 : Hid (Mk lo hi wr wr) := hide (Mk.refl _ _ _)
      clear R HSr
      have q0 : Hid (∀ w, ∃ X, Calls Tryz.prog 33 #[.int .i64 ((j : Int))] w fun e w' => e = .returned (.string X) ∧ Below w.heap.size w w') := hide (fun w => ⟨_, by have := markText_any (j + 0) w (by omega) (by omega); rwa [show ((j + 0 : Nat) : Int) = (j : Int) by omega] at this⟩)
      have M1 := M0
      clear M0
      obtain ⟨X0, qx0⟩ := unhide q0 wr
      have Q0 := hide qx0
      clear q0 qx0
      go_wp2_with fail
      refine (unhide Q0).mono ?_
      rintro e v0 ⟨rfl, hb0⟩
      have N0 : Hid (Mk lo hi wr v0) := hide ((unhide M1).trans (Mk.below (Nat.le_trans (unhide hlo') (unhide M1).b.size) hb0))
      have R100 := hide ((unhide R0).mv (unhide N0))
      clear hb0 Q0 M1
      have f0 := (unhide R100).i.f (off + k)
      obtain ⟨D0, g0⟩ := (unhide R100).c0 k hlt
      have M200 : Hid (Mk lo hi wr (v0.setCell ⟨b, off + k, none⟩ (.string X0))) := hide ((unhide N0).sets (unhide R100).i.l (unhide R100).i.u g0 (.str _ _))
      clear N0
      go_wp2_with fail
      exact ⟨⟨k + 1, j + 1, by omega, by go_num, by go_num, by omega, hide (by have := unhide hj; omega), hide ((unhide hM).trans (unhide M200))⟩, by simp [Go.RowKit.intOf]; omega⟩
    · have e : k = n := by omega
      have ej := hide (show s ≤ j ∧ j ≤ s + n * 1 by rw [← e]; exact unhide hj)
      go_wp2_with fail
      go_ret
      exact ⟨⟨j, rfl, (unhide ej).1, (unhide ej).2⟩, unhide hM⟩
structure RowVW (w : World) (lo hi b off n : Nat) : Prop where
  i : In w lo hi b
  c0 : ∀ i, i < n → IntC w b (off + i * 7)
  c1 : ∀ i, i < n → IntC w b (off + i * 7 + 1)
  c2 : ∀ i, i < n → IntC w b (off + i * 7 + 2)
  c3 : ∀ i, i < n → StrC w b (off + i * 7 + 3)
  c4 : ∀ i, i < n → StrC w b (off + i * 7 + 4)
  c5 : ∀ i, i < n → ∃ h : Hd, w.cell? ⟨b, off + i * 7 + 5, none⟩ = some (.slice h.a h.len h.cap) ∧ h.len ≤ 1048576 ∧ ShA w lo hi h
  c6 : ∀ i, i < n → ∃ h : Hd, w.cell? ⟨b, off + i * 7 + 6, none⟩ = some (.slice h.a h.len h.cap) ∧ h.len ≤ 1048576 ∧ ShS w lo hi h
def ShV (w : World) (lo hi : Nat) (h : Hd) : Prop := h.len = 0 ∨ ∃ b off, h.a = some ⟨b, off, none⟩ ∧ RowVW w lo hi b off h.len
theorem RowVW.mv {w w' : World} {lo hi b off n : Nat} (h : RowVW w lo hi b off n) (m : Mk lo hi w w') : RowVW w' lo hi b off n :=
  ⟨h.i.mv m, fun i hi => (h.c0 i hi).mv m, fun i hi => (h.c1 i hi).mv m, fun i hi => (h.c2 i hi).mv m, fun i hi => (h.c3 i hi).mv m, fun i hi => (h.c4 i hi).mv m, fun i hi => by obtain ⟨q, e, l, s⟩ := h.c5 i hi; exact ⟨q, sl_mk e m, l, s.mv m⟩, fun i hi => by obtain ⟨q, e, l, s⟩ := h.c6 i hi; exact ⟨q, sl_mk e m, l, s.mv m⟩⟩
theorem ShV.mv {w w' : World} {lo hi : Nat} {h : Hd} (s : ShV w lo hi h) (m : Mk lo hi w w') : ShV w' lo hi h := s.imp id fun ⟨b, off, e, r⟩ => ⟨b, off, e, r.mv m⟩
set_option maxRecDepth 100000 in
set_option maxHeartbeats 4000000 in
theorem markV_w (lo hi : Nat) (h : Hd) (s : Nat) (w : World) (hlo : lo ≤ w.heap.size) (hn : h.len ≤ 1048576) (hs1 : 1 ≤ s) (hs9 : s + h.len * 5242885 ≤ 9000000000000000000) (hs : ShV w lo hi h) :
    Calls Tryz.prog 35 #[.slice h.a h.len h.cap, .int .i64 s] w fun e w' => (∃ m : Nat, e = .returned (.int .i64 m) ∧ s ≤ m ∧ m ≤ s + h.len * 5242885) ∧ Mk lo hi w w' := by
  obtain ⟨a, n, cap⟩ := h
  simp only at hn hs9 ⊢
  have HS := hide hs
  have HLO := hide hlo
  clear hs hlo
  go_enter Tryz.func35, Tryz.ntmps35
  go_wp2_with fail
  go_loopw [1, 5] (fun q i w' => ∃ (k j : Nat), k ≤ n ∧ i = .int .i64 k ∧ q = .int .i64 j ∧ 1 ≤ j ∧ Hid (s ≤ j ∧ j ≤ s + k * 5242885) ∧ Hid (Mk lo hi w w')) (fun _ i _ => n - (Go.RowKit.intOf i).toNat)
  case atStart => exact ⟨0, s, Nat.zero_le _, rfl, rfl, hs1, hide (by omega), hide (Mk.refl _ _ _)⟩
  case round =>
    obtain ⟨k, j, hk, rfl, rfl, hj1, hj, hM⟩ := hrel
    by_cases hlt : k < n
    · have i0 : (0 : Int) ≤ (k : Int) := by omega
      have i1 : (k : Int) < (n : Int) := by omega
      have hjb : j + 5242885 ≤ 9000000000000000000 := by have := (unhide hj).2; omega
      have HSr : Hid (ShV wr lo hi ⟨a, n, cap⟩) := hide ((unhide HS).mv (unhide hM))
      rcases unhide HSr with e | ⟨b, off, e, R⟩
      · exact absurd e (by simp only; omega)
      simp only at e
      subst e
      have R0 := hide R
      have hlo' : Hid (lo ≤ wr.heap.size) := hide (Nat.le_trans (unhide HLO) (unhide hM).b.size)
      have M0 : Hid (Mk lo hi wr wr) := hide (Mk.refl _ _ _)
      clear R HSr
      have q3 : Hid (∀ w, ∃ X, Calls Tryz.prog 33 #[.int .i64 ((j : Int) + 1 + 1 + 1)] w fun e w' => e = .returned (.string X) ∧ Below w.heap.size w w') := hide (fun w => ⟨_, by have := markText_any (j + 3) w (by omega) (by omega); rwa [show ((j + 3 : Nat) : Int) = (j : Int) + 1 + 1 + 1 by omega] at this⟩)
      have q4 : Hid (∀ w, ∃ X, Calls Tryz.prog 33 #[.int .i64 ((j : Int) + 1 + 1 + 1 + 1)] w fun e w' => e = .returned (.string X) ∧ Below w.heap.size w w') := hide (fun w => ⟨_, by have := markText_any (j + 4) w (by omega) (by omega); rwa [show ((j + 4 : Nat) : Int) = (j : Int) + 1 + 1 + 1 + 1 by omega] at this⟩)
      have f0 := (unhide R0).i.f (off + k * 7)
      obtain ⟨D0, g0⟩ := (unhide R0).c0 k hlt
      have f1 := (unhide R0).i.f (off + k * 7 + 1)
      obtain ⟨D1, g1⟩ := (unhide R0).c1 k hlt
      have f2 := (unhide R0).i.f (off + k * 7 + 2)
      obtain ⟨D2, g2⟩ := (unhide R0).c2 k hlt
      have M1 : Hid (Mk lo hi wr (((wr.setCell ⟨b, off + k * 7, none⟩ (.int .i64 ((j : Int)))).setCell ⟨b, off + k * 7 + 1, none⟩ (.int .i64 ((j : Int) + 1))).setCell ⟨b, off + k * 7 + 2, none⟩ (.int .i64 ((j : Int) + 1 + 1)))) := hide ((((unhide M0).sets (unhide R0).i.l (unhide R0).i.u g0 (.int _ _)).sets (unhide R0).i.l (unhide R0).i.u (by rw [World.cell?_setCell_other _ _ _ _ (fun e => by have := congrArg Addr.off e; simp at this)]; exact g1) (.int _ _)).sets (unhide R0).i.l (unhide R0).i.u (by rw [World.cell?_setCell_other _ _ _ _ (fun e => by have := congrArg Addr.off e; simp at this)]; rw [World.cell?_setCell_other _ _ _ _ (fun e => by have := congrArg Addr.off e; simp at this)]; exact g2) (.int _ _))
      clear M0
      obtain ⟨X3, qx3⟩ := unhide q3 (((wr.setCell ⟨b, off + k * 7, none⟩ (.int .i64 ((j : Int)))).setCell ⟨b, off + k * 7 + 1, none⟩ (.int .i64 ((j : Int) + 1))).setCell ⟨b, off + k * 7 + 2, none⟩ (.int .i64 ((j : Int) + 1 + 1)))
      have Q3 := hide qx3
      clear q3 qx3
      go_wp2_with fail
      refine (unhide Q3).mono ?_
      rintro e v3 ⟨rfl, hb3⟩
      have N3 : Hid (Mk lo hi wr v3) := hide ((unhide M1).trans (Mk.below (Nat.le_trans (unhide hlo') (unhide M1).b.size) hb3))
      have R103 := hide ((unhide R0).mv (unhide N3))
      clear hb3 Q3 M1 f0 g0 f1 g1 f2 g2
      have f3 := (unhide R103).i.f (off + k * 7 + 3)
      obtain ⟨D3, g3⟩ := (unhide R103).c3 k hlt
      have M203 : Hid (Mk lo hi wr (v3.setCell ⟨b, off + k * 7 + 3, none⟩ (.string X3))) := hide ((unhide N3).sets (unhide R103).i.l (unhide R103).i.u g3 (.str _ _))
      clear N3
      obtain ⟨X4, qx4⟩ := unhide q4 (v3.setCell ⟨b, off + k * 7 + 3, none⟩ (.string X3))
      have Q4 := hide qx4
      clear q4 qx4
      go_wp2_with fail
      refine (unhide Q4).mono ?_
      rintro e v4 ⟨rfl, hb4⟩
      have N4 : Hid (Mk lo hi wr v4) := hide ((unhide M203).trans (Mk.below (Nat.le_trans (unhide hlo') (unhide M203).b.size) hb4))
      have R104 := hide ((unhide R0).mv (unhide N4))
      clear hb4 Q4 M203 f3 g3
      have f4 := (unhide R104).i.f (off + k * 7 + 4)
      obtain ⟨D4, g4⟩ := (unhide R104).c4 k hlt
      have M204 : Hid (Mk lo hi wr (v4.setCell ⟨b, off + k * 7 + 4, none⟩ (.string X4))) := hide ((unhide N4).sets (unhide R104).i.l (unhide R104).i.u g4 (.str _ _))
      clear N4
      obtain ⟨h5, d5, l5, s5'⟩ := (unhide R104).c5 k hlt
      have s5 := s5'.mv (Mk.set v4 (unhide R104).i.l (unhide R104).i.u g4 (u := .string X4) (.str _ _))
      clear s5'
      have Q5 := hide (markA_w lo hi h5 (j + 5) _ (Nat.le_trans (unhide hlo') (unhide M204).b.size) l5 (by omega) (by omega) s5)
      rw [show (((j + 5) : Nat) : Int) = (j : Int) + 1 + 1 + 1 + 1 + 1 by omega] at Q5
      clear s5
      go_wp2_with fail
      refine (unhide Q5).mono ?_
      rintro e u5 ⟨⟨m5, rfl, a5, b5⟩, mk5⟩
      have M305 : Hid (Mk lo hi wr u5) := hide ((unhide M204).trans mk5)
      clear mk5 Q5 M204 f4 g4 d5
      have S6 := hide ((unhide R0).mv (unhide M305))
      obtain ⟨h6, d6, l6, s6⟩ := (unhide S6).c6 k hlt
      have Q6 := hide (markS_w lo hi h6 m5 _ (Nat.le_trans (unhide hlo') (unhide M305).b.size) l6 (by omega) (by omega) s6)
      clear s6 S6
      go_wp2_with fail
      refine (unhide Q6).mono ?_
      rintro e u6 ⟨⟨m6, rfl, a6, b6⟩, mk6⟩
      have M306 : Hid (Mk lo hi wr u6) := hide ((unhide M305).trans mk6)
      clear mk6 Q6 M305 d6
      go_wp2_with fail
      exact ⟨⟨k + 1, m6, by omega, by go_num, rfl, by omega, hide (by have := unhide hj; omega), hide ((unhide hM).trans (unhide M306))⟩, by simp [Go.RowKit.intOf]; omega⟩
    · have e : k = n := by omega
      have ej := hide (show s ≤ j ∧ j ≤ s + n * 5242885 by rw [← e]; exact unhide hj)
      go_wp2_with fail
      go_ret
      exact ⟨⟨j, rfl, (unhide ej).1, (unhide ej).2⟩, unhide hM⟩
structure RowTW (w : World) (lo hi b off n : Nat) : Prop where
  i : In w lo hi b
  c0 : ∀ i, i < n → IntC w b (off + i * 7)
  c1 : ∀ i, i < n → IntC w b (off + i * 7 + 1)
  c2 : ∀ i, i < n → StrC w b (off + i * 7 + 2)
  c3 : ∀ i, i < n → StrC w b (off + i * 7 + 3)
  c4 : ∀ i, i < n → ∃ h : Hd, w.cell? ⟨b, off + i * 7 + 4, none⟩ = some (.slice h.a h.len h.cap) ∧ h.len ≤ 1048576 ∧ ShA w lo hi h
  c5 : ∀ i, i < n → ∃ h : Hd, w.cell? ⟨b, off + i * 7 + 5, none⟩ = some (.slice h.a h.len h.cap) ∧ h.len ≤ 1048576 ∧ ShS w lo hi h
  c6 : ∀ i, i < n → ∃ h : Hd, w.cell? ⟨b, off + i * 7 + 6, none⟩ = some (.slice h.a h.len h.cap) ∧ h.len ≤ 1048576 ∧ ShV w lo hi h
def ShT (w : World) (lo hi : Nat) (h : Hd) : Prop := h.len = 0 ∨ ∃ b off, h.a = some ⟨b, off, none⟩ ∧ RowTW w lo hi b off h.len
theorem RowTW.mv {w w' : World} {lo hi b off n : Nat} (h : RowTW w lo hi b off n) (m : Mk lo hi w w') : RowTW w' lo hi b off n :=
  ⟨h.i.mv m, fun i hi => (h.c0 i hi).mv m, fun i hi => (h.c1 i hi).mv m, fun i hi => (h.c2 i hi).mv m, fun i hi => (h.c3 i hi).mv m, fun i hi => by obtain ⟨q, e, l, s⟩ := h.c4 i hi; exact ⟨q, sl_mk e m, l, s.mv m⟩, fun i hi => by obtain ⟨q, e, l, s⟩ := h.c5 i hi; exact ⟨q, sl_mk e m, l, s.mv m⟩, fun i hi => by obtain ⟨q, e, l, s⟩ := h.c6 i hi; exact ⟨q, sl_mk e m, l, s.mv m⟩⟩
theorem ShT.mv {w w' : World} {lo hi : Nat} {h : Hd} (s : ShT w lo hi h) (m : Mk lo hi w w') : ShT w' lo hi h := s.imp id fun ⟨b, off, e, r⟩ => ⟨b, off, e, r.mv m⟩
set_option maxRecDepth 100000 in
set_option maxHeartbeats 4000000 in
theorem markT_w (lo hi : Nat) (h : Hd) (s : Nat) (w : World) (hlo : lo ≤ w.heap.size) (hn : h.len ≤ 1048576) (hs1 : 1 ≤ s) (hs9 : s + h.len * 5497568624644 ≤ 9000000000000000000) (hs : ShT w lo hi h) :
    Calls Tryz.prog 13 #[.slice h.a h.len h.cap, .int .i64 s] w fun e w' => (∃ m : Nat, e = .returned (.int .i64 m) ∧ s ≤ m ∧ m ≤ s + h.len * 5497568624644) ∧ Mk lo hi w w' := by
  obtain ⟨a, n, cap⟩ := h
  simp only at hn hs9 ⊢
  have HS := hide hs
  have HLO := hide hlo
  clear hs hlo
  go_enter Tryz.func13, Tryz.ntmps13
  go_wp2_with fail
  go_loopw [1, 5] (fun q i w' => ∃ (k j : Nat), k ≤ n ∧ i = .int .i64 k ∧ q = .int .i64 j ∧ 1 ≤ j ∧ Hid (s ≤ j ∧ j ≤ s + k * 5497568624644) ∧ Hid (Mk lo hi w w')) (fun _ i _ => n - (Go.RowKit.intOf i).toNat)
  case atStart => exact ⟨0, s, Nat.zero_le _, rfl, rfl, hs1, hide (by omega), hide (Mk.refl _ _ _)⟩
  case round =>
    obtain ⟨k, j, hk, rfl, rfl, hj1, hj, hM⟩ := hrel
    by_cases hlt : k < n
    · have i0 : (0 : Int) ≤ (k : Int) := by omega
      have i1 : (k : Int) < (n : Int) := by omega
      have hjb : j + 5497568624644 ≤ 9000000000000000000 := by have := (unhide hj).2; omega
      have HSr : Hid (ShT wr lo hi ⟨a, n, cap⟩) := hide ((unhide HS).mv (unhide hM))
      rcases unhide HSr with e | ⟨b, off, e, R⟩
      · exact absurd e (by simp only; omega)
      simp only at e
      subst e
      have R0 := hide R
      have hlo' : Hid (lo ≤ wr.heap.size) := hide (Nat.le_trans (unhide HLO) (unhide hM).b.size)
      have M0 : Hid (Mk lo hi wr wr) := hide (Mk.refl _ _ _)
      clear R HSr
      have q2 : Hid (∀ w, ∃ X, Calls Tryz.prog 33 #[.int .i64 ((j : Int) + 1 + 1)] w fun e w' => e = .returned (.string X) ∧ Below w.heap.size w w') := hide (fun w => ⟨_, by have := markText_any (j + 2) w (by omega) (by omega); rwa [show ((j + 2 : Nat) : Int) = (j : Int) + 1 + 1 by omega] at this⟩)
      have q3 : Hid (∀ w, ∃ X, Calls Tryz.prog 33 #[.int .i64 ((j : Int) + 1 + 1 + 1)] w fun e w' => e = .returned (.string X) ∧ Below w.heap.size w w') := hide (fun w => ⟨_, by have := markText_any (j + 3) w (by omega) (by omega); rwa [show ((j + 3 : Nat) : Int) = (j : Int) + 1 + 1 + 1 by omega] at this⟩)
      have f0 := (unhide R0).i.f (off + k * 7)
      obtain ⟨D0, g0⟩ := (unhide R0).c0 k hlt
      have f1 := (unhide R0).i.f (off + k * 7 + 1)
      obtain ⟨D1, g1⟩ := (unhide R0).c1 k hlt
      have M1 : Hid (Mk lo hi wr ((wr.setCell ⟨b, off + k * 7, none⟩ (.int .i64 ((j : Int)))).setCell ⟨b, off + k * 7 + 1, none⟩ (.int .i64 ((j : Int) + 1)))) := hide (((unhide M0).sets (unhide R0).i.l (unhide R0).i.u g0 (.int _ _)).sets (unhide R0).i.l (unhide R0).i.u (by rw [World.cell?_setCell_other _ _ _ _ (fun e => by have := congrArg Addr.off e; simp at this)]; exact g1) (.int _ _))
      clear M0
      obtain ⟨X2, qx2⟩ := unhide q2 ((wr.setCell ⟨b, off + k * 7, none⟩ (.int .i64 ((j : Int)))).setCell ⟨b, off + k * 7 + 1, none⟩ (.int .i64 ((j : Int) + 1)))
      have Q2 := hide qx2
      clear q2 qx2
      go_wp2_with fail
      refine (unhide Q2).mono ?_
      rintro e v2 ⟨rfl, hb2⟩
      have N2 : Hid (Mk lo hi wr v2) := hide ((unhide M1).trans (Mk.below (Nat.le_trans (unhide hlo') (unhide M1).b.size) hb2))
      have R102 := hide ((unhide R0).mv (unhide N2))
      clear hb2 Q2 M1 f0 g0 f1 g1
      have f2 := (unhide R102).i.f (off + k * 7 + 2)
      obtain ⟨D2, g2⟩ := (unhide R102).c2 k hlt
      have M202 : Hid (Mk lo hi wr (v2.setCell ⟨b, off + k * 7 + 2, none⟩ (.string X2))) := hide ((unhide N2).sets (unhide R102).i.l (unhide R102).i.u g2 (.str _ _))
      clear N2
      obtain ⟨X3, qx3⟩ := unhide q3 (v2.setCell ⟨b, off + k * 7 + 2, none⟩ (.string X2))
      have Q3 := hide qx3
      clear q3 qx3
      go_wp2_with fail
      refine (unhide Q3).mono ?_
      rintro e v3 ⟨rfl, hb3⟩
      have N3 : Hid (Mk lo hi wr v3) := hide ((unhide M202).trans (Mk.below (Nat.le_trans (unhide hlo') (unhide M202).b.size) hb3))
      have R103 := hide ((unhide R0).mv (unhide N3))
      clear hb3 Q3 M202 f2 g2
      have f3 := (unhide R103).i.f (off + k * 7 + 3)
      obtain ⟨D3, g3⟩ := (unhide R103).c3 k hlt
      have M203 : Hid (Mk lo hi wr (v3.setCell ⟨b, off + k * 7 + 3, none⟩ (.string X3))) := hide ((unhide N3).sets (unhide R103).i.l (unhide R103).i.u g3 (.str _ _))
      clear N3
      obtain ⟨h4, d4, l4, s4'⟩ := (unhide R103).c4 k hlt
      have s4 := s4'.mv (Mk.set v3 (unhide R103).i.l (unhide R103).i.u g3 (u := .string X3) (.str _ _))
      clear s4'
      have Q4 := hide (markA_w lo hi h4 (j + 4) _ (Nat.le_trans (unhide hlo') (unhide M203).b.size) l4 (by omega) (by omega) s4)
      rw [show (((j + 4) : Nat) : Int) = (j : Int) + 1 + 1 + 1 + 1 by omega] at Q4
      clear s4
      go_wp2_with fail
      refine (unhide Q4).mono ?_
      rintro e u4 ⟨⟨m4, rfl, a4, b4⟩, mk4⟩
      have M304 : Hid (Mk lo hi wr u4) := hide ((unhide M203).trans mk4)
      clear mk4 Q4 M203 f3 g3 d4
      have S5 := hide ((unhide R0).mv (unhide M304))
      obtain ⟨h5, d5, l5, s5⟩ := (unhide S5).c5 k hlt
      have Q5 := hide (markS_w lo hi h5 m4 _ (Nat.le_trans (unhide hlo') (unhide M304).b.size) l5 (by omega) (by omega) s5)
      clear s5 S5
      go_wp2_with fail
      refine (unhide Q5).mono ?_
      rintro e u5 ⟨⟨m5, rfl, a5, b5⟩, mk5⟩
      have M305 : Hid (Mk lo hi wr u5) := hide ((unhide M304).trans mk5)
      clear mk5 Q5 M304 d5
      have S6 := hide ((unhide R0).mv (unhide M305))
      obtain ⟨h6, d6, l6, s6⟩ := (unhide S6).c6 k hlt
      have Q6 := hide (markV_w lo hi h6 m5 _ (Nat.le_trans (unhide hlo') (unhide M305).b.size) l6 (by omega) (by omega) s6)
      clear s6 S6
      go_wp2_with fail
      refine (unhide Q6).mono ?_
      rintro e u6 ⟨⟨m6, rfl, a6, b6⟩, mk6⟩
      have M306 : Hid (Mk lo hi wr u6) := hide ((unhide M305).trans mk6)
      clear mk6 Q6 M305 d6
      go_wp2_with fail
      exact ⟨⟨k + 1, m6, by omega, by go_num, rfl, by omega, hide (by have := unhide hj; omega), hide ((unhide hM).trans (unhide M306))⟩, by simp [Go.RowKit.intOf]; omega⟩
    · have e : k = n := by omega
      have ej := hide (show s ≤ j ∧ j ≤ s + n * 5497568624644 by rw [← e]; exact unhide hj)
      go_wp2_with fail
      go_ret
      exact ⟨⟨j, rfl, (unhide ej).1, (unhide ej).2⟩, unhide hM⟩
end Go.Proofs.YtpfekkhnjaopdaaGreat.V
/- The order of atoms; the set of a list, rising. -/
namespace Go.Proofs.YtpfekkhnjaopdaaGreat.V
open Go.RowKit

/-- A comparison that is an order. -/
structure Ord3 {α : Type} (c : α → α → Int) : Prop where
  self : ∀ a, c a a = 0
  zero : ∀ a b, c a b = 0 → a = b
  anti : ∀ a b, c a b < 0 ↔ 0 < c b a
  tr : ∀ a b d, c a b < 0 → c b d < 0 → c a d < 0
theorem ord_N : Ord3 cmpN where
  self := cmpN_self
  zero _ _ h := cmpN_zero h
  anti a b := by unfold cmpN; (repeat' split) <;> omega
  tr a b d := by unfold cmpN; intro h k; (repeat' split at h) <;> (repeat' split at k) <;> (repeat' split) <;> omega
theorem cmpT_anti : ∀ a b : List UInt8, cmpT a b < 0 ↔ 0 < cmpT b a
  | [], [] => by simp [cmpT]
  | [], _ :: _ => by simp [cmpT]
  | _ :: _, [] => by simp [cmpT]
  | x :: a, y :: b => by
    have ih := cmpT_anti a b
    unfold cmpT
    by_cases h : x = y
    · subst h; simpa using ih
    · have h' : ¬ y = x := fun e => h e.symm
      simp only [h, h', if_false]
      exact ord_N.anti _ _
theorem cmpT_tr : ∀ a b d : List UInt8, cmpT a b < 0 → cmpT b d < 0 → cmpT a d < 0
  | [], [], d => by intro h; simp [cmpT] at h
  | [], _ :: _, [] => by intro _ h; simp [cmpT] at h
  | [], _ :: _, _ :: _ => by intro _ _; simp [cmpT]
  | _ :: _, [], d => by intro h; simp [cmpT] at h
  | _ :: _, _ :: _, [] => by intro _ h; simp [cmpT] at h
  | x :: a, y :: b, z :: d => by
    have ih := cmpT_tr a b d
    unfold cmpT
    intro h k
    by_cases e1 : x = y
    · subst e1
      by_cases e2 : x = z
      · subst e2; simp only [if_true] at *; exact ih h k
      · simp only [if_true, e2, if_false] at *; exact k
    · by_cases e2 : y = z
      · subst e2; simp only [e1, if_false, if_true] at *; exact h
      · simp only [e1, e2, if_false] at h k
        have t := ord_N.tr _ _ _ h k
        by_cases e3 : x = z
        · subst e3; rw [cmpN_self] at t; omega
        · simp only [e3, if_false]; exact t
theorem ord_T : Ord3 cmpT := ⟨cmpT_self, fun _ _ h => cmpT_zero h, cmpT_anti, cmpT_tr⟩
theorem Ord3.both {α β : Type} {c : α → α → Int} {d : β → β → Int} (hc : Ord3 c) (hd : Ord3 d) : Ord3 (fun (a b : α × β) => orI (c a.1 b.1) (d a.2 b.2)) where
  self a := by unfold orI; rw [hc.self, if_pos rfl, hd.self]
  zero a b h := by
    unfold orI at h
    by_cases e : c a.1 b.1 = 0
    · rw [if_pos e] at h
      exact Prod.ext (hc.zero _ _ e) (hd.zero _ _ h)
    · rw [if_neg e] at h; exact absurd h e
  anti a b := by
    unfold orI
    by_cases e : c a.1 b.1 = 0
    · have e1 := hc.zero _ _ e
      have e2 : c b.1 a.1 = 0 := by rw [e1]; exact hc.self _
      rw [if_pos e, if_pos e2]; exact hd.anti _ _
    · have e2 : ¬ c b.1 a.1 = 0 := fun h => e (by rw [hc.zero _ _ h]; exact hc.self _)
      rw [if_neg e, if_neg e2]; exact hc.anti _ _
  tr a b f h k := by
    unfold orI at *
    by_cases e : c a.1 b.1 = 0
    · have e1 := hc.zero _ _ e
      rw [if_pos e] at h
      rw [e1]
      by_cases e2 : c b.1 f.1 = 0
      · rw [if_pos e2] at *; exact hd.tr _ _ _ h k
      · rw [if_neg e2] at *; exact k
    · rw [if_neg e] at h
      by_cases e2 : c b.1 f.1 = 0
      · rw [← hc.zero _ _ e2, if_neg e]; exact h
      · rw [if_neg e2] at k
        have t := hc.tr _ _ _ h k
        rw [if_neg (by omega)]; exact t
theorem ord_A : Ord3 AtomT.cmp := by
  have h := ord_N.both (ord_N.both (ord_T.both ord_T))
  have e : ∀ a b : AtomT, a.cmp b = (fun (a b : Int × Int × List UInt8 × List UInt8) => orI (cmpN a.1 b.1) (orI (cmpN a.2.1 b.2.1) (orI (cmpT a.2.2.1 b.2.2.1) (cmpT a.2.2.2 b.2.2.2)))) (a.x, a.n, a.y.data.toList, a.t.data.toList) (b.x, b.n, b.y.data.toList, b.t.data.toList) := fun _ _ => rfl
  refine ⟨fun a => by rw [e]; exact h.self _, fun a b k => ?_, fun a b => by rw [e, e]; exact h.anti _ _, fun a b d k1 k2 => by rw [e] at *; exact h.tr _ _ _ k1 k2⟩
  rw [e] at k
  have := h.zero _ _ k
  simp only [Prod.mk.injEq] at this
  obtain ⟨h1, h2, h3, h4⟩ := this
  cases a; cases b
  simp only at h1 h2 h3 h4
  rw [h1, h2, Go.WideShapes.bytes_inj h3, Go.WideShapes.bytes_inj h4]
theorem Ord3.tri {α : Type} {c : α → α → Int} (h : Ord3 c) (a b : α) : c a b < 0 ∨ a = b ∨ c b a < 0 := by
  rcases Int.lt_trichotomy (c a b) 0 with k | k | k
  · exact .inl k
  · exact .inr (.inl (h.zero _ _ k))
  · exact .inr (.inr ((h.anti b a).2 k))
theorem Ord3.irr {α : Type} {c : α → α → Int} (h : Ord3 c) (a : α) : ¬ c a a < 0 := by rw [h.self]; omega

theorem ris_ext {α : Type} {R : α → α → Prop} (irr : ∀ a, ¬ R a a) (tr : ∀ a b c, R a b → R b c → R a c) : ∀ {l l' : List α}, l.Pairwise R → l'.Pairwise R → (∀ x, x ∈ l ↔ x ∈ l') → l = l'
  | [], [], _, _, _ => rfl
  | [], b :: t, _, _, h => absurd ((h b).2 (by simp)) (by simp)
  | a :: t, [], _, _, h => absurd ((h a).1 (by simp)) (by simp)
  | a :: t, b :: t', h1, h2, h => by
    have h1' := List.pairwise_cons.1 h1
    have h2' := List.pairwise_cons.1 h2
    have e : a = b := Classical.byContradiction fun e => by
      have k1 : a ∈ t' := by have := (h a).1 (by simp); rcases List.mem_cons.1 this with k | k; exact absurd k e; exact k
      have k2 : b ∈ t := by have := (h b).2 (by simp); rcases List.mem_cons.1 this with k | k; exact absurd k.symm e; exact k
      exact irr a (tr _ _ _ (h1'.1 b k2) (h2'.1 a k1))
    subst e
    congr 1
    refine ris_ext irr tr h1'.2 h2'.2 fun x => ⟨fun k => ?_, fun k => ?_⟩
    · have := (h x).1 (List.mem_cons_of_mem _ k)
      rcases List.mem_cons.1 this with e | e
      · subst e; exact absurd (h1'.1 _ k) (irr _)
      · exact e
    · have := (h x).2 (List.mem_cons_of_mem _ k)
      rcases List.mem_cons.1 this with e | e
      · subst e; exact absurd (h2'.1 _ k) (irr _)
      · exact e
/-- The set of a list: rising, with the list's members. -/
structure SetR (l r : List AtomT) : Prop where
  ris : r.Pairwise (fun a b => a.cmp b < 0)
  mem : ∀ x, x ∈ r ↔ x ∈ l
theorem SetR.uniq {l r r' : List AtomT} (h : SetR l r) (k : SetR l r') : r = r' := ris_ext (fun a => ord_A.irr a) (fun a b c => ord_A.tr a b c) h.ris k.ris (fun x => by rw [h.mem, k.mem])
theorem SetR.nil : SetR [] [] := ⟨List.Pairwise.nil, fun _ => Iff.rfl⟩
theorem nd_len {α : Type} : ∀ {r l : List α}, r.Nodup → (∀ x ∈ r, x ∈ l) → r.length ≤ l.length
  | [], _, _, _ => Nat.zero_le _
  | a :: r, l, h, k => by
    obtain ⟨s, t, e⟩ := List.append_of_mem (k a (by simp))
    have h' := List.pairwise_cons.1 h
    have := nd_len (r := r) (l := s ++ t) h'.2 (fun x hx => by
      have h1 := k x (List.mem_cons_of_mem _ hx)
      rw [e, List.mem_append, List.mem_cons] at h1
      rw [List.mem_append]
      rcases h1 with h1 | h1 | h1
      · exact .inl h1
      · exact absurd h1.symm (h'.1 x hx)
      · exact .inr h1)
    rw [e]
    simp only [List.length_append, List.length_cons] at *
    omega
theorem SetR.len {l r : List AtomT} (h : SetR l r) : r.length ≤ l.length := by
  have nd : r.Nodup := h.ris.imp (fun {a b} k e => by subst e; exact ord_A.irr _ k)
  exact nd_len nd (fun x hx => (h.mem x).1 hx)
theorem SetR.snoc {l r : List AtomT} {x : AtomT} (h : SetR l r) (hx : ∀ y ∈ l, y.cmp x < 0) : SetR (l ++ [x]) (r ++ [x]) := by
  refine ⟨List.pairwise_append.2 ⟨h.ris, by simp, fun a ha b hb => ?_⟩, fun y => by simp [h.mem]⟩
  rw [List.mem_singleton.1 hb]; exact hx a ((h.mem a).1 ha)
theorem SetR.again {l r : List AtomT} {x : AtomT} (h : SetR l r) (hx : x ∈ l) : SetR (l ++ [x]) r :=
  ⟨h.ris, fun y => by
    rw [h.mem, List.mem_append, List.mem_singleton]
    exact ⟨.inl, fun k => k.elim id (fun k => by rw [k]; exact hx)⟩⟩
end Go.Proofs.YtpfekkhnjaopdaaGreat.V
