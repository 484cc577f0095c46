/- spec.DrawAddrIn (11). -/
import Derived.Test.YthbakjnojjkmmaaAtm
namespace Go.Proofs.Ythbakjnojjkmmaa
open Go.RowKit

/-- An atom that may be drawn. -/
def SmallA (n : Int) (t y : ByteArray) : Prop := n ≤ 9223372036854775807 ∧ t.size ≤ 10 ∧ y.size ≤ 10
theorem cur_new3 {w : World} {a : Option Addr} {len : Nat} (h : CodeAt w w.heap.size a len) (cap : Nat) (o o' : Obj) :
    CurOk (((w.alloc o).alloc o').alloc (.cells #[.slice a len cap, .int .i64 0, .int .u64 0] 57)) (w.heap.size + 1 + 1) 0 := by
  have e : ((w.alloc o).alloc o').heap.size = w.heap.size + 1 + 1 := by simp
  have h' : CodeAt ((w.alloc o).alloc o') ((w.alloc o).alloc o').heap.size a len := by
    refine ⟨h.1, ?_⟩
    rcases h.2 with e | ⟨blk, off, e, q, n, r⟩
    · exact .inl e
    · refine .inr ⟨blk, off, e, by simp; omega, by simp; omega, fun i hi => ?_⟩
      obtain ⟨x, h1, h2, h3⟩ := r i hi
      exact ⟨x, h1, h2, by rw [World.cell?_of_block (((bAl (bAl (Below.refl w.heap.size w) o) o').block blk q))]; exact h3⟩
  have := cur_new h' cap
  rw [e] at this
  exact this
theorem row_facts {w : World} {z : Nat} {a b c d : Value} (h : RowIs w z #[a, b, c, d] 24) :
    (w.cell? ⟨z, 0, none⟩ = some a ∧ w.cell? ⟨z, 1, none⟩ = some b ∧ w.cell? ⟨z, 2, none⟩ = some c ∧ w.cell? ⟨z, 3, none⟩ = some d) ∧
    w.frozen? ⟨z, 0, none⟩ = false ∧ w.frozen? ⟨z, 1, none⟩ = false ∧ w.frozen? ⟨z, 2, none⟩ = false ∧ w.frozen? ⟨z, 3, none⟩ = false :=
  ⟨⟨h.at rfl, h.at rfl, h.at rfl, h.at rfl⟩, h.froz 0, h.froz 1, h.froz 2, h.froz 3⟩
theorem put4_set {w : World} {z : Nat} {a b c d : Value} (h : RowIs w z #[a, b, c, d] 24) (x n t y : Value) : RowIs (put4 w z x n t y) z #[x, n, t, y] 24 :=
  (((h.set 0 x).set 1 n).set 2 t).set 3 y
theorem put4_other {w : World} {z z' : Nat} {C : Array Value} {T : TypeId} (h : RowIs w z' C T) (x n t y : Value) (hz : z' ≠ z) : RowIs (put4 w z x n t y) z' C T :=
  (((h.setOther x hz).setOther n hz).setOther t hz).setOther y hz
theorem put4_below {w w' : World} {B z : Nat} (h : Below B w w') (x n t y : Value) (hz : B ≤ z) : Below B w (put4 w' z x n t y) :=
  (((h.setCell hz x).setCell hz n).setCell hz t).setCell hz y
set_option maxHeartbeats 2000000 in
theorem drawAddrIn_any (a : Option Addr) (len cap : Nat) (w : World) (hcode : CodeAt w w.heap.size a len) :
    Calls Try.prog 11 #[.slice a len cap] w fun e w' => (∃ (x n : Int) (t y : ByteArray) (x' n' : Int) (t' y' : ByteArray), SmallA n t y ∧ SmallA n' t' y' ∧ e = .returned (.tuple #[.agg #[.int .i64 x, .int .i64 n, .string t, .string y], .agg #[.int .i64 x', .int .i64 n', .string t', .string y']])) ∧ Below w.heap.size w w' := by
  have HC := hide hcode
  clear hcode
  go_enter Try.func11, Try.ntmps11
  go_wp2_with fail
  have r0 : RowIs (((w.alloc (.cells Zero4 24)).alloc (.cells Zero4 24)).alloc (.cells #[.slice a len cap, .int .i64 0, .int .u64 0] 57)) w.heap.size Zero4 24 := ((RowIs.new w Zero4 24).keep (bAl (Below.refl _ _) _)).keep (bAl (Below.refl _ _) _)
  have r1 : RowIs (((w.alloc (.cells Zero4 24)).alloc (.cells Zero4 24)).alloc (.cells #[.slice a len cap, .int .i64 0, .int .u64 0] 57)) (w.alloc (.cells Zero4 24)).heap.size Zero4 24 := (RowIs.new (w.alloc (.cells Zero4 24)) Zero4 24).keep (bAl (Below.refl _ _) _)
  rw [World.size_alloc] at r1
  refine (block_any (w.heap.size + 1 + 1) 0 _ (by omega) (cur_new3 (unhide HC) cap _ _)).mono ?_
  rintro e w1 ⟨⟨n, n0, n1, rfl⟩, hc1, hb1⟩
  have HC1 := hide hc1
  have R0 := hide (hb1.row r0 (by omega))
  have R1 := hide (hb1.row r1 (by omega))
  have B1 := hide ((bAl (bAl (bAl (Below.refl w.heap.size w) _) _) _).trans (hb1.below (B := w.heap.size) (by omega) (by simp; omega)))
  have l1 := hc1.lt
  clear hc1 hb1 HC r0 r1
  go_wp2_with fail
  refine (block_any (w.heap.size + 1 + 1) _ _ (by omega) ((unhide HC1).al _)).mono ?_
  rintro e w2 ⟨⟨n', n0', n1', rfl⟩, hc2, hb2⟩
  have RA := hide (hb2.row (RowIs.new w1 #[.int .i64 6, .int .i64 n, .string ⟨#[]⟩, .string ⟨#[]⟩] 24) (by omega))
  have R02 := hide (hb2.row ((unhide R0).keep (bAl (Below.refl _ _) _)) (by omega))
  have R12 := hide (hb2.row ((unhide R1).keep (bAl (Below.refl _ _) _)) (by omega))
  have HC2 := hide hc2
  have B2 := hide ((bAl (unhide B1) _).trans (hb2.below (B := w.heap.size) (by omega) (by simp; omega)))
  have l2 := hc2.lt
  have l12 := hb2.size
  rw [World.size_alloc] at l12
  clear hc2 hb2 HC1 B1 R0 R1
  go_wp2_with fail
  refine (one_any (w.heap.size + 1 + 1) _ 12 _ (by omega) (by omega) (by omega) ((unhide HC2).al _)).mono ?_
  rintro e w3 ⟨⟨g, rfl⟩, hc3, hb3⟩
  have RB := hide (hb3.row (RowIs.new w2 #[.int .i64 6, .int .i64 n', .string ⟨#[]⟩, .string ⟨#[]⟩] 24) (by omega))
  have RA3 := hide (hb3.row ((unhide RA).keep (bAl (Below.refl _ _) _)) (by omega))
  have R03 := hide (hb3.row ((unhide R02).keep (bAl (Below.refl _ _) _)) (by omega))
  have R13 := hide (hb3.row ((unhide R12).keep (bAl (Below.refl _ _) _)) (by omega))
  have HC3 := hide hc3
  have B3 := hide ((bAl (unhide B2) _).trans (hb3.below (B := w.heap.size) (by omega) (by simp; omega)))
  have l3 := hc3.lt
  have l23 := hb3.size
  rw [World.size_alloc] at l23
  clear hc3 hb3 HC2 B2 R02 R12 RA
  have d1 : w.heap.size ≠ w1.heap.size := by omega
  have d2 : w.heap.size ≠ w2.heap.size := by omega
  have d3 : w.heap.size + 1 ≠ w1.heap.size := by omega
  have d4 : w.heap.size + 1 ≠ w2.heap.size := by omega
  have d5 : w1.heap.size ≠ w2.heap.size := by omega
  cases g
  · obtain ⟨⟨a0, a1, a2, a3⟩, _⟩ := row_facts (unhide RA3)
    obtain ⟨⟨b0, b1, b2, b3⟩, _⟩ := row_facts (unhide RB)
    obtain ⟨⟨c0, c1, c2, c3⟩, f0, f1, f2, f3⟩ := row_facts (unhide R03)
    obtain ⟨⟨e0, e1, e2, e3⟩, g0, g1, g2, g3⟩ := row_facts (unhide R13)
    go_wp2_with fail
    go_region_with fail
    all_goals
      have F0 := put4_other (z := w.heap.size + 1) (put4_set (unhide R03) (.int .i64 6) (.int .i64 n) (.string ⟨#[]⟩) (.string ⟨#[]⟩)) (.int .i64 6) (.int .i64 n') (.string ⟨#[]⟩) (.string ⟨#[]⟩) (by omega)
      have F1 := put4_set (put4_other (z := w.heap.size) (unhide R13) (.int .i64 6) (.int .i64 n) (.string ⟨#[]⟩) (.string ⟨#[]⟩) (by omega)) (.int .i64 6) (.int .i64 n') (.string ⟨#[]⟩) (.string ⟨#[]⟩)
      obtain ⟨⟨p0, p1, p2, p3⟩, _⟩ := row_facts F0
      obtain ⟨⟨q0, q1, q2, q3⟩, _⟩ := row_facts F1
      have BU := put4_below (z := w.heap.size + 1) (put4_below (z := w.heap.size) (unhide B3) (.int .i64 6) (.int .i64 n) (.string ⟨#[]⟩) (.string ⟨#[]⟩) (by omega)) (.int .i64 6) (.int .i64 n') (.string ⟨#[]⟩) (.string ⟨#[]⟩) (by omega)
      unfold put4 at p0 p1 p2 p3 q0 q1 q2 q3 BU
      clear a0 a1 a2 a3 b0 b1 b2 b3 c0 c1 c2 c3 e0 e1 e2 e3 f0 f1 f2 f3 g0 g1 g2 g3
      go_wp2_with fail
      exact bodyPost_ret (v := .tuple #[.agg #[.int .i64 6, .int .i64 n, .string ⟨#[]⟩, .string ⟨#[]⟩], .agg #[.int .i64 6, .int .i64 n', .string ⟨#[]⟩, .string ⟨#[]⟩]]) (by simp [results, Try.results11, go_sem, p0, p1, p2, p3, q0, q1, q2, q3]) rfl ⟨⟨_, _, _, _, _, _, _, _, ⟨by omega, by decide, by decide⟩, ⟨by omega, by first | decide | omega, by first | decide | omega⟩, rfl⟩, BU.drew⟩
  · go_wp2_with fail
    refine (atom_any (w.heap.size + 1 + 1) _ _ (by omega) (unhide HC3)).mono ?_
    rintro e w4 ⟨⟨x, m, t, y, hm, ht, hy, rfl⟩, hc4, hb4⟩
    have RB4 := hide (hb4.row (unhide RB) (by omega))
    have RA4 := hide (hb4.row (unhide RA3) (by omega))
    have R04 := hide (hb4.row (unhide R03) (by omega))
    have R14 := hide (hb4.row (unhide R13) (by omega))
    have B4 := hide ((unhide B3).trans (hb4.below (B := w.heap.size) (by omega) (by omega)))
    obtain ⟨⟨h0, h1, h2, h3⟩, k0, k1, k2, k3⟩ := row_facts (unhide RB4)
    clear hc4 hb4
    go_wp2_with fail
    have RB5 := put4_set (unhide RB4) (.int .i64 x) (.int .i64 m) (.string t) (.string y)
    have RA5 := put4_other (z := w2.heap.size) (unhide RA4) (.int .i64 x) (.int .i64 m) (.string t) (.string y) (by omega)
    have R05 := put4_other (z := w2.heap.size) (unhide R04) (.int .i64 x) (.int .i64 m) (.string t) (.string y) (by omega)
    have R15 := put4_other (z := w2.heap.size) (unhide R14) (.int .i64 x) (.int .i64 m) (.string t) (.string y) (by omega)
    have B5 := put4_below (z := w2.heap.size) (unhide B4) (.int .i64 x) (.int .i64 m) (.string t) (.string y) (by omega)
    unfold put4 at RB5 RA5 R05 R15 B5
    clear h0 h1 h2 h3 k0 k1 k2 k3
    generalize (((w4.setCell ⟨w2.heap.size, 0, none⟩ (.int .i64 x)).setCell ⟨w2.heap.size, 1, none⟩ (.int .i64 m)).setCell ⟨w2.heap.size, 2, none⟩ (.string t)).setCell ⟨w2.heap.size, 3, none⟩ (.string y) = w5 at RB5 RA5 R05 R15 B5 ⊢
    obtain ⟨⟨a0, a1, a2, a3⟩, _⟩ := row_facts RA5
    obtain ⟨⟨b0, b1, b2, b3⟩, _⟩ := row_facts RB5
    obtain ⟨⟨c0, c1, c2, c3⟩, f0, f1, f2, f3⟩ := row_facts R05
    obtain ⟨⟨e0, e1, e2, e3⟩, g0, g1, g2, g3⟩ := row_facts R15
    have RZ0 := hide R05
    have RZ1 := hide R15
    have BZ := hide B5
    clear R05 R15 B5 RA5 RB5
    go_region_with fail
    all_goals
      have F0 := put4_other (z := w.heap.size + 1) (put4_set (unhide RZ0) (.int .i64 6) (.int .i64 n) (.string ⟨#[]⟩) (.string ⟨#[]⟩)) (.int .i64 x) (.int .i64 m) (.string t) (.string y) (by omega)
      have F1 := put4_set (put4_other (z := w.heap.size) (unhide RZ1) (.int .i64 6) (.int .i64 n) (.string ⟨#[]⟩) (.string ⟨#[]⟩) (by omega)) (.int .i64 x) (.int .i64 m) (.string t) (.string y)
      obtain ⟨⟨p0, p1, p2, p3⟩, _⟩ := row_facts F0
      obtain ⟨⟨q0, q1, q2, q3⟩, _⟩ := row_facts F1
      have BU := put4_below (z := w.heap.size + 1) (put4_below (z := w.heap.size) (unhide BZ) (.int .i64 6) (.int .i64 n) (.string ⟨#[]⟩) (.string ⟨#[]⟩) (by omega)) (.int .i64 x) (.int .i64 m) (.string t) (.string y) (by omega)
      unfold put4 at p0 p1 p2 p3 q0 q1 q2 q3 BU
      clear a0 a1 a2 a3 b0 b1 b2 b3 c0 c1 c2 c3 e0 e1 e2 e3 f0 f1 f2 f3 g0 g1 g2 g3
      go_wp2_with fail
      exact bodyPost_ret (v := .tuple #[.agg #[.int .i64 6, .int .i64 n, .string ⟨#[]⟩, .string ⟨#[]⟩], .agg #[.int .i64 x, .int .i64 m, .string t, .string y]]) (by simp [results, Try.results11, go_sem, p0, p1, p2, p3, q0, q1, q2, q3]) rfl ⟨⟨_, _, _, _, _, _, _, _, ⟨by omega, by decide, by decide⟩, ⟨by omega, by first | decide | omega, by first | decide | omega⟩, rfl⟩, BU.drew⟩
end Go.Proofs.Ythbakjnojjkmmaa
