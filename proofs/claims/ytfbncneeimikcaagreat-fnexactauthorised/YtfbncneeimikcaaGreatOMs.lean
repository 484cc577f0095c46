/- OMs, one behind the other. -/
import Derived.Test.YtfbncneeimikcaaGreatJ36
import Derived.Test.YtfbncneeimikcaaGreatJ29
/- laws.markIntS, markRoleGrantS, markRoleSessionS, markRoleState, markRoleSet: the kinds of the cells stay, slices stay; no block outside [lo, hi) is touched. -/
namespace Go.Proofs.YtfbncneeimikcaaGreat.V
set_option linter.unusedSimpArgs false
set_option linter.unusedVariables false
open Go.RowKit

theorem markTextE (j : Nat) (w : World) (h1 : 1 ≤ j) (h2 : j ≤ 9000000000000000000) : Calls Tryz.prog 45 #[.int .i64 (j : Int)] w fun e w' => (∃ X, e = .returned (.string X)) ∧ Below w.heap.size w w' :=
  (markText_any j w (by omega) (by omega)).mono (fun e w' ⟨h, hb⟩ => ⟨⟨_, h⟩, hb⟩)
structure RowIW (w : World) (lo hi b off n : Nat) : Prop where
  i : In w lo hi b
  c0 : ∀ i, i < n → IntC w b (off + i)
def ShI (w : World) (lo hi : Nat) (h : Hd) : Prop := h.len = 0 ∨ ∃ b off, h.a = some ⟨b, off, none⟩ ∧ RowIW w lo hi b off h.len
theorem RowIW.mv {w w' : World} {lo hi b off n : Nat} (h : RowIW w lo hi b off n) (m : Mk lo hi w w') : RowIW w' lo hi b off n :=
  ⟨h.i.mv m, fun i hi => (h.c0 i hi).mv m⟩
theorem ShI.mv {w w' : World} {lo hi : Nat} {h : Hd} (s : ShI w lo hi h) (m : Mk lo hi w w') : ShI w' lo hi h := s.imp id fun ⟨b, off, e, r⟩ => ⟨b, off, e, r.mv m⟩
set_option maxRecDepth 100000 in
set_option maxHeartbeats 4000000 in
theorem markI_w (lo hi : Nat) (h : Hd) (s : Nat) (w : World) (hlo : lo ≤ w.heap.size) (hn : h.len ≤ 1048576) (hs1 : 1 ≤ s) (hs9 : s + h.len * 1 ≤ 9000000000000000000) (hs : ShI w lo hi h) :
    Calls Tryz.prog 42 #[.slice h.a h.len h.cap, .int .i64 s] w fun e w' => (∃ m : Nat, e = .returned (.int .i64 m) ∧ s ≤ m ∧ m ≤ s + h.len * 1) ∧ Mk lo hi w w' := by
  obtain ⟨a, n, cap⟩ := h
  simp only at hn hs9 ⊢
  have HS := hide hs
  have HLO := hide hlo
  clear hs hlo
  go_enter Tryz.func42, Tryz.ntmps42
  go_wp2_with fail
  go_loopw [1, 5] (fun q i w' => ∃ (k j : Nat), k ≤ n ∧ i = .int .i64 k ∧ q = .int .i64 j ∧ 1 ≤ j ∧ Hid (s ≤ j ∧ j ≤ s + k * 1) ∧ Hid (Mk lo hi w w')) (fun _ i _ => n - (Go.RowKit.intOf i).toNat)
  case atStart => exact ⟨0, s, Nat.zero_le _, rfl, rfl, hs1, hide (by omega), hide (Mk.refl _ _ _)⟩
  case round =>
    obtain ⟨k, j, hk, rfl, rfl, hj1, hj, hM⟩ := hrel
    by_cases hlt : k < n
    · have i0 : (0 : Int) ≤ (k : Int) := by omega
      have i1 : (k : Int) < (n : Int) := by omega
      have hjb : j + 1 ≤ 9000000000000000000 := by have := (unhide hj).2; omega
      have HSr : Hid (ShI wr lo hi ⟨a, n, cap⟩) := hide ((unhide HS).mv (unhide hM))
      rcases unhide HSr with e | ⟨b, off, e, R⟩
      · exact absurd e (by simp only; omega)
      simp only at e
      subst e
      have R0 := hide R
      have hlo' : Hid (lo ≤ wr.heap.size) := hide (Nat.le_trans (unhide HLO) (unhide hM).b.size)
      have M0 : Hid (Mk lo hi wr wr) := hide (Mk.refl _ _ _)
      clear R HSr
      have f0 := (unhide R0).i.f (off + k)
      obtain ⟨D0, g0⟩ := (unhide R0).c0 k hlt
      have M1 : Hid (Mk lo hi wr (wr.setCell ⟨b, off + k, none⟩ (.int .i64 ((j : Int))))) := hide ((unhide M0).sets (unhide R0).i.l (unhide R0).i.u g0 (.int _ _))
      clear M0
      go_wp2_with fail
      exact ⟨⟨k + 1, j + 1, by omega, by go_num, by go_num, by omega, hide (by have := unhide hj; omega), hide ((unhide hM).trans (unhide M1))⟩, by simp [Go.RowKit.intOf]; omega⟩
    · have e : k = n := by omega
      have ej := hide (show s ≤ j ∧ j ≤ s + n * 1 by rw [← e]; exact unhide hj)
      go_wp2_with fail
      go_ret
      exact ⟨⟨j, rfl, (unhide ej).1, (unhide ej).2⟩, unhide hM⟩
structure RowGW (w : World) (lo hi b off n : Nat) : Prop where
  i : In w lo hi b
  c0 : ∀ i, i < n → StrC w b (off + i * 6)
  c1 : ∀ i, i < n → StrC w b (off + i * 6 + 1)
  c2 : ∀ i, i < n → StrC w b (off + i * 6 + 2)
  c3 : ∀ i, i < n → IntC w b (off + i * 6 + 3)
  c4 : ∀ i, i < n → IntC w b (off + i * 6 + 4)
  c5 : ∀ i, i < n → IntC w b (off + i * 6 + 5)
def ShG (w : World) (lo hi : Nat) (h : Hd) : Prop := h.len = 0 ∨ ∃ b off, h.a = some ⟨b, off, none⟩ ∧ RowGW w lo hi b off h.len
theorem RowGW.mv {w w' : World} {lo hi b off n : Nat} (h : RowGW w lo hi b off n) (m : Mk lo hi w w') : RowGW w' lo hi b off n :=
  ⟨h.i.mv m, fun i hi => (h.c0 i hi).mv m, fun i hi => (h.c1 i hi).mv m, fun i hi => (h.c2 i hi).mv m, fun i hi => (h.c3 i hi).mv m, fun i hi => (h.c4 i hi).mv m, fun i hi => (h.c5 i hi).mv m⟩
theorem ShG.mv {w w' : World} {lo hi : Nat} {h : Hd} (s : ShG w lo hi h) (m : Mk lo hi w w') : ShG w' lo hi h := s.imp id fun ⟨b, off, e, r⟩ => ⟨b, off, e, r.mv m⟩
set_option maxRecDepth 100000 in
set_option maxHeartbeats 8000000 in
theorem markG_w (lo hi : Nat) (h : Hd) (s : Nat) (w : World) (hlo : lo ≤ w.heap.size) (hn : h.len ≤ 1048576) (hs1 : 1 ≤ s) (hs9 : s + h.len * 6 ≤ 9000000000000000000) (hs : ShG w lo hi h) :
    Calls Tryz.prog 43 #[.slice h.a h.len h.cap, .int .i64 s] w fun e w' => (∃ m : Nat, e = .returned (.int .i64 m) ∧ s ≤ m ∧ m ≤ s + h.len * 6) ∧ Mk lo hi w w' := by
  obtain ⟨a, n, cap⟩ := h
  simp only at hn hs9 ⊢
  have HS := hide hs
  have HLO := hide hlo
  clear hs hlo
  go_enter Tryz.func43, Tryz.ntmps43
  go_wp2_with fail
  go_loopw [1, 5] (fun q i w' => ∃ (k j : Nat), k ≤ n ∧ i = .int .i64 k ∧ q = .int .i64 j ∧ 1 ≤ j ∧ Hid (s ≤ j ∧ j ≤ s + k * 6) ∧ Hid (Mk lo hi w w')) (fun _ i _ => n - (Go.RowKit.intOf i).toNat)
  case atStart => exact ⟨0, s, Nat.zero_le _, rfl, rfl, hs1, hide (by omega), hide (Mk.refl _ _ _)⟩
  case round =>
    obtain ⟨k, j, hk, rfl, rfl, hj1, hj, hM⟩ := hrel
    by_cases hlt : k < n
    · have i0 : (0 : Int) ≤ (k : Int) := by omega
      have i1 : (k : Int) < (n : Int) := by omega
      have hjb : j + 6 ≤ 9000000000000000000 := by have := (unhide hj).2; omega
      have HSr : Hid (ShG wr lo hi ⟨a, n, cap⟩) := hide ((unhide HS).mv (unhide hM))
      rcases unhide HSr with e | ⟨b, off, e, R⟩
      · exact absurd e (by simp only; omega)
      simp only at e
      subst e
      have R0 := hide R
      have hlo' : Hid (lo ≤ wr.heap.size) := hide (Nat.le_trans (unhide HLO) (unhide hM).b.size)
      have M0 : Hid (Mk lo hi wr wr) := hide (Mk.refl _ _ _)
      clear R HSr
      have q0 := hide (fun w => markTextE (j + 0) w (by omega) (by omega))
      have q1 := hide (fun w => markTextE (j + 1) w (by omega) (by omega))
      rw [show ((j + 1 : Nat) : Int) = (j : Int) + 1 by omega] at q1
      have q2 := hide (fun w => markTextE (j + 2) w (by omega) (by omega))
      rw [show ((j + 2 : Nat) : Int) = (j : Int) + 1 + 1 by omega] at q2
      go_wp2_with fail
      refine (unhide q0 _).mono ?_
      rintro e v0 ⟨⟨X0, rfl⟩, hb0⟩
      have N0 : Hid (Mk lo hi wr v0) := hide ((unhide M0).trans (Mk.below (Nat.le_trans (unhide hlo') (unhide M0).b.size) hb0))
      have R1 := hide ((unhide R0).mv (unhide N0))
      clear q0 hb0
      have f0 := (unhide R1).i.f (off + k * 6)
      obtain ⟨D0, g0⟩ := (unhide R1).c0 k hlt
      go_wp2_with fail
      refine (unhide q1 _).mono ?_
      rintro e v1 ⟨⟨X1, rfl⟩, hb1⟩
      have N1 : Hid (Mk lo hi wr v1) := hide ((Mk.sets2 (unhide N0) (unhide R0).i g0 (.str _ _)).trans (Mk.below (Nat.le_trans (unhide hlo') (Mk.sets2 (unhide N0) (unhide R0).i g0 (.str _ _)).b.size) hb1))
      have R2 := hide ((unhide R0).mv (unhide N1))
      clear q1 hb1 f0 g0
      have f1 := (unhide R2).i.f (off + k * 6 + 1)
      obtain ⟨D1, g1⟩ := (unhide R2).c1 k hlt
      go_wp2_with fail
      refine (unhide q2 _).mono ?_
      rintro e v2 ⟨⟨X2, rfl⟩, hb2⟩
      have N2 : Hid (Mk lo hi wr v2) := hide ((Mk.sets2 (unhide N1) (unhide R0).i g1 (.str _ _)).trans (Mk.below (Nat.le_trans (unhide hlo') (Mk.sets2 (unhide N1) (unhide R0).i g1 (.str _ _)).b.size) hb2))
      have R3 := hide ((unhide R0).mv (unhide N2))
      clear q2 hb2 f1 g1
      have f2 := (unhide R3).i.f (off + k * 6 + 2)
      obtain ⟨D2, g2⟩ := (unhide R3).c2 k hlt
      have f3 := (unhide R3).i.f (off + k * 6 + 3)
      obtain ⟨D3, g3⟩ := (unhide R3).c3 k hlt
      have f4 := (unhide R3).i.f (off + k * 6 + 4)
      obtain ⟨D4, g4⟩ := (unhide R3).c4 k hlt
      have f5 := (unhide R3).i.f (off + k * 6 + 5)
      obtain ⟨D5, g5⟩ := (unhide R3).c5 k hlt
      go_wp2_with fail
      exact ⟨⟨k + 1, j + 6, by omega, by go_num, by go_num, by omega, hide (by have := unhide hj; omega), hide ((unhide hM).trans (Mk.sets2 (Mk.sets2 (Mk.sets2 (Mk.sets2 (unhide N2) (unhide R0).i g2 (.str _ _)) (unhide R0).i (cellOff g3 (by omega)) (.int _ _)) (unhide R0).i (cellOff (cellOff g4 (by omega)) (by omega)) (.int _ _)) (unhide R0).i (cellOff (cellOff (cellOff g5 (by omega)) (by omega)) (by omega)) (.int _ _)))⟩, by simp [Go.RowKit.intOf]; omega⟩
    · have e : k = n := by omega
      have ej := hide (show s ≤ j ∧ j ≤ s + n * 6 by rw [← e]; exact unhide hj)
      go_wp2_with fail
      go_ret
      exact ⟨⟨j, rfl, (unhide ej).1, (unhide ej).2⟩, unhide hM⟩
structure RowXW (w : World) (lo hi b off n : Nat) : Prop where
  i : In w lo hi b
  c0 : ∀ i, i < n → StrC w b (off + i * 5)
  c1 : ∀ i, i < n → StrC w b (off + i * 5 + 1)
  c2 : ∀ i, i < n → ∃ h : Hd, w.cell? ⟨b, off + i * 5 + 2, none⟩ = some (.slice h.a h.len h.cap) ∧ h.len ≤ 1048576 ∧ ShS w lo hi h
  c3 : ∀ i, i < n → ∃ h : Hd, w.cell? ⟨b, off + i * 5 + 3, none⟩ = some (.slice h.a h.len h.cap) ∧ h.len ≤ 1048576 ∧ ShG w lo hi h
  c4 : ∀ i, i < n → BoolC w b (off + i * 5 + 4)
def ShX (w : World) (lo hi : Nat) (h : Hd) : Prop := h.len = 0 ∨ ∃ b off, h.a = some ⟨b, off, none⟩ ∧ RowXW w lo hi b off h.len
theorem RowXW.mv {w w' : World} {lo hi b off n : Nat} (h : RowXW w lo hi b off n) (m : Mk lo hi w w') : RowXW w' lo hi b off n :=
  ⟨h.i.mv m, fun i hi => (h.c0 i hi).mv m, fun i hi => (h.c1 i hi).mv m, fun i hi => by obtain ⟨q, e, l, s⟩ := h.c2 i hi; exact ⟨q, sl_mk e m, l, s.mv m⟩, fun i hi => by obtain ⟨q, e, l, s⟩ := h.c3 i hi; exact ⟨q, sl_mk e m, l, s.mv m⟩, fun i hi => (h.c4 i hi).mv m⟩
theorem ShX.mv {w w' : World} {lo hi : Nat} {h : Hd} (s : ShX w lo hi h) (m : Mk lo hi w w') : ShX w' lo hi h := s.imp id fun ⟨b, off, e, r⟩ => ⟨b, off, e, r.mv m⟩
set_option maxRecDepth 100000 in
set_option maxHeartbeats 4000000 in
theorem markX_w (lo hi : Nat) (h : Hd) (s : Nat) (w : World) (hlo : lo ≤ w.heap.size) (hn : h.len ≤ 1048576) (hs1 : 1 ≤ s) (hs9 : s + h.len * 7340035 ≤ 9000000000000000000) (hs : ShX w lo hi h) :
    Calls Tryz.prog 44 #[.slice h.a h.len h.cap, .int .i64 s] w fun e w' => (∃ m : Nat, e = .returned (.int .i64 m) ∧ s ≤ m ∧ m ≤ s + h.len * 7340035) ∧ Mk lo hi w w' := by
  obtain ⟨a, n, cap⟩ := h
  simp only at hn hs9 ⊢
  have HS := hide hs
  have HLO := hide hlo
  clear hs hlo
  go_enter Tryz.func44, Tryz.ntmps44
  go_wp2_with fail
  go_loopw [1, 5] (fun q i w' => ∃ (k j : Nat), k ≤ n ∧ i = .int .i64 k ∧ q = .int .i64 j ∧ 1 ≤ j ∧ Hid (s ≤ j ∧ j ≤ s + k * 7340035) ∧ Hid (Mk lo hi w w')) (fun _ i _ => n - (Go.RowKit.intOf i).toNat)
  case atStart => exact ⟨0, s, Nat.zero_le _, rfl, rfl, hs1, hide (by omega), hide (Mk.refl _ _ _)⟩
  case round =>
    obtain ⟨k, j, hk, rfl, rfl, hj1, hj, hM⟩ := hrel
    by_cases hlt : k < n
    · have i0 : (0 : Int) ≤ (k : Int) := by omega
      have i1 : (k : Int) < (n : Int) := by omega
      have hjb : j + 7340035 ≤ 9000000000000000000 := by have := (unhide hj).2; omega
      have HSr : Hid (ShX wr lo hi ⟨a, n, cap⟩) := hide ((unhide HS).mv (unhide hM))
      rcases unhide HSr with e | ⟨b, off, e, R⟩
      · exact absurd e (by simp only; omega)
      simp only at e
      subst e
      have R0 := hide R
      have hlo' : Hid (lo ≤ wr.heap.size) := hide (Nat.le_trans (unhide HLO) (unhide hM).b.size)
      have M0 : Hid (Mk lo hi wr wr) := hide (Mk.refl _ _ _)
      clear R HSr
      have q0 : Hid (∀ w, ∃ X, Calls Tryz.prog 45 #[.int .i64 ((j : Int))] w fun e w' => e = .returned (.string X) ∧ Below w.heap.size w w') := hide (fun w => ⟨_, by have := markText_any (j + 0) w (by omega) (by omega); rwa [show ((j + 0 : Nat) : Int) = (j : Int) by omega] at this⟩)
      have q1 : Hid (∀ w, ∃ X, Calls Tryz.prog 45 #[.int .i64 ((j : Int) + 1)] w fun e w' => e = .returned (.string X) ∧ Below w.heap.size w w') := hide (fun w => ⟨_, by have := markText_any (j + 1) w (by omega) (by omega); rwa [show ((j + 1 : Nat) : Int) = (j : Int) + 1 by omega] at this⟩)
      have M1 := M0
      clear M0
      obtain ⟨X0, qx0⟩ := unhide q0 wr
      have Q0 := hide qx0
      clear q0 qx0
      go_wp2_with fail
      refine (unhide Q0).mono ?_
      rintro e v0 ⟨rfl, hb0⟩
      have N0 : Hid (Mk lo hi wr v0) := hide ((unhide M1).trans (Mk.below (Nat.le_trans (unhide hlo') (unhide M1).b.size) hb0))
      have R100 := hide ((unhide R0).mv (unhide N0))
      clear hb0 Q0 M1
      have f0 := (unhide R100).i.f (off + k * 5)
      obtain ⟨D0, g0⟩ := (unhide R100).c0 k hlt
      have M200 : Hid (Mk lo hi wr (v0.setCell ⟨b, off + k * 5, none⟩ (.string X0))) := hide ((unhide N0).sets (unhide R100).i.l (unhide R100).i.u g0 (.str _ _))
      clear N0
      obtain ⟨X1, qx1⟩ := unhide q1 (v0.setCell ⟨b, off + k * 5, none⟩ (.string X0))
      have Q1 := hide qx1
      clear q1 qx1
      go_wp2_with fail
      refine (unhide Q1).mono ?_
      rintro e v1 ⟨rfl, hb1⟩
      have N1 : Hid (Mk lo hi wr v1) := hide ((unhide M200).trans (Mk.below (Nat.le_trans (unhide hlo') (unhide M200).b.size) hb1))
      have R101 := hide ((unhide R0).mv (unhide N1))
      clear hb1 Q1 M200 f0 g0
      have f1 := (unhide R101).i.f (off + k * 5 + 1)
      obtain ⟨D1, g1⟩ := (unhide R101).c1 k hlt
      have M201 : Hid (Mk lo hi wr (v1.setCell ⟨b, off + k * 5 + 1, none⟩ (.string X1))) := hide ((unhide N1).sets (unhide R101).i.l (unhide R101).i.u g1 (.str _ _))
      clear N1
      obtain ⟨h2, d2, l2, s2'⟩ := (unhide R101).c2 k hlt
      have s2 := s2'.mv (Mk.set v1 (unhide R101).i.l (unhide R101).i.u g1 (u := .string X1) (.str _ _))
      clear s2'
      have Q2 := hide (markS_w lo hi h2 (j + 2) _ (Nat.le_trans (unhide hlo') (unhide M201).b.size) l2 (by omega) (by omega) s2)
      rw [show (((j + 2) : Nat) : Int) = (j : Int) + 1 + 1 by omega] at Q2
      clear s2
      go_wp2_with fail
      refine (unhide Q2).mono ?_
      rintro e u2 ⟨⟨m2, rfl, a2, b2⟩, mk2⟩
      have M302 : Hid (Mk lo hi wr u2) := hide ((unhide M201).trans mk2)
      clear mk2 Q2 M201 f1 g1 d2
      have S3 := hide ((unhide R0).mv (unhide M302))
      obtain ⟨h3, d3, l3, s3⟩ := (unhide S3).c3 k hlt
      have Q3 := hide (markG_w lo hi h3 m2 _ (Nat.le_trans (unhide hlo') (unhide M302).b.size) l3 (by omega) (by omega) s3)
      clear s3 S3
      go_wp2_with fail
      refine (unhide Q3).mono ?_
      rintro e u3 ⟨⟨m3, rfl, a3, b3⟩, mk3⟩
      have M303 : Hid (Mk lo hi wr u3) := hide ((unhide M302).trans mk3)
      clear mk3 Q3 M302 d3
      have R9 := hide ((unhide R0).mv (unhide M303))
      have f4 := (unhide R9).i.f (off + k * 5 + 4)
      obtain ⟨D4, g4⟩ := (unhide R9).c4 k hlt
      go_wp2_with fail
      exact ⟨⟨k + 1, m3 + 1, by omega, by go_num, by go_num, by omega, hide (by have := unhide hj; omega), hide ((unhide hM).trans (Mk.sets2 (unhide M303) (unhide R0).i g4 (.bool _ _)))⟩, by simp [Go.RowKit.intOf]; omega⟩
    · have e : k = n := by omega
      have ej := hide (show s ≤ j ∧ j ≤ s + n * 7340035 by rw [← e]; exact unhide hj)
      go_wp2_with fail
      go_ret
      exact ⟨⟨j, rfl, (unhide ej).1, (unhide ej).2⟩, unhide hM⟩
set_option maxHeartbeats 2000000 in
theorem markRS_b (lo hi : Nat) (h0 h1 h2 : Hd) (w : World) (hlo : lo ≤ hi) (hhi : hi ≤ w.heap.size) (n0 : h0.len ≤ 1048576) (n1 : h1.len ≤ 1048576) (n2 : h2.len ≤ 1048576) (s0 : ShR w lo hi h0) (s1 : ShP w lo hi h1) (s2 : ShS w lo hi h2) :
    Calls Tryz.prog 13 #[.agg #[.slice h0.a h0.len h0.cap, .slice h1.a h1.len h1.cap, .slice h2.a h2.len h2.cap], .int .i64 1] w fun e w' => (∃ m : Nat, e = .returned (.int .i64 m) ∧ 1 ≤ m ∧ m ≤ 9000000000000) ∧ Mk lo hi w w' := by
  obtain ⟨W, hW⟩ : ∃ W, W = w.alloc (.cells #[.slice h0.a h0.len h0.cap, .slice h1.a h1.len h1.cap, .slice h2.a h2.len h2.cap] 38) := ⟨_, rfl⟩
  have bW : Below w.heap.size w W := by rw [hW]; exact bAl (Below.refl _ _) _
  have R := hide (show RowIs W w.heap.size #[.slice h0.a h0.len h0.cap, .slice h1.a h1.len h1.cap, .slice h2.a h2.len h2.cap] 38 by rw [hW]; exact RowIs.new w _ _)
  have M := hide (Mk.below (lo := lo) (hi := hi) (Nat.le_trans hlo hhi) bW)
  have S1 := hide (s1.mv (unhide M))
  have S2 := hide (s2.mv (unhide M))
  have q0 := hide (markR_w lo hi h0 1 W (Nat.le_trans (Nat.le_trans hlo hhi) bW.size) n0 (by omega) (by omega) (s0.mv (unhide M)))
  have zW : lo ≤ W.heap.size := Nat.le_trans (Nat.le_trans hlo hhi) bW.size
  have HW := hide hW.symm
  clear hW bW s0 s1 s2
  go_enter Tryz.func13, Tryz.ntmps13
  go_wp2_with fail
  rw [unhide HW]
  refine (unhide q0).mono ?_
  rintro e w1 ⟨⟨m1, rfl, a1, b1⟩, mk⟩
  replace R := hide (mk.row hhi (unhide R))
  replace M := hide ((unhide M).trans mk)
  replace S1 := hide ((unhide S1).mv mk)
  replace S2 := hide ((unhide S2).mv mk)
  have q1 := hide (markP_w lo hi h1 m1 w1 (Nat.le_trans zW mk.b.size) n1 (by omega) (by omega) (unhide S1))
  have z1 : lo ≤ w1.heap.size := Nat.le_trans zW mk.b.size
  clear mk q0 HW S1
  have c1 := (unhide R).at (o := 1) (v := .slice h1.a h1.len h1.cap) rfl
  go_wp2_with fail
  refine (unhide q1).mono ?_
  rintro e w2 ⟨⟨m2, rfl, a2, b2⟩, mk⟩
  replace R := hide (mk.row hhi (unhide R))
  replace M := hide ((unhide M).trans mk)
  replace S2 := hide ((unhide S2).mv mk)
  have q2 := hide (markS_w lo hi h2 m2 w2 (Nat.le_trans z1 mk.b.size) n2 (by omega) (by omega) (unhide S2))
  clear mk q1 S2 c1
  have c2 := (unhide R).at (o := 2) (v := .slice h2.a h2.len h2.cap) rfl
  go_wp2_with fail
  refine (unhide q2).mono ?_
  rintro e w3 ⟨⟨m3, rfl, a3, b3⟩, mk⟩
  replace M := hide ((unhide M).trans mk)
  clear mk q2 c2 R
  go_wp2_with fail
  go_ret
  exact ⟨⟨m3, rfl, by omega, by omega⟩, unhide M⟩
set_option maxHeartbeats 2000000 in
theorem markSt_w (lo hi : Nat) (h0 h1 h2 : Hd) (f3 : Int) (s : Nat) (w : World) (h1s : 1 ≤ s) (h9s : s ≤ 9000000000000) (hlo : lo ≤ hi) (hhi : hi ≤ w.heap.size) (n0 : h0.len ≤ 1048576) (n1 : h1.len ≤ 1048576) (n2 : h2.len ≤ 1048576) (s0 : ShI w lo hi h0) (s1 : ShG w lo hi h1) (s2 : ShX w lo hi h2) :
    Calls Tryz.prog 14 #[.agg #[.slice h0.a h0.len h0.cap, .slice h1.a h1.len h1.cap, .slice h2.a h2.len h2.cap, .int .i64 f3], .int .i64 s] w fun e w' => (∃ m : Nat, e = .returned (.int .i64 m) ∧ 1 ≤ m) ∧ Mk lo hi w w' := by
  obtain ⟨W, hW⟩ : ∃ W, W = w.alloc (.cells #[.slice h0.a h0.len h0.cap, .slice h1.a h1.len h1.cap, .slice h2.a h2.len h2.cap, .int .i64 f3] 43) := ⟨_, rfl⟩
  have bW : Below w.heap.size w W := by rw [hW]; exact bAl (Below.refl _ _) _
  have R := hide (show RowIs W w.heap.size #[.slice h0.a h0.len h0.cap, .slice h1.a h1.len h1.cap, .slice h2.a h2.len h2.cap, .int .i64 f3] 43 by rw [hW]; exact RowIs.new w _ _)
  have M := hide (Mk.below (lo := lo) (hi := hi) (Nat.le_trans hlo hhi) bW)
  have S1 := hide (s1.mv (unhide M))
  have S2 := hide (s2.mv (unhide M))
  have q0 := hide (markI_w lo hi h0 s W (Nat.le_trans (Nat.le_trans hlo hhi) bW.size) n0 (by omega) (by omega) (s0.mv (unhide M)))
  have zW : lo ≤ W.heap.size := Nat.le_trans (Nat.le_trans hlo hhi) bW.size
  have HW := hide hW.symm
  clear hW bW s0 s1 s2
  go_enter Tryz.func14, Tryz.ntmps14
  go_wp2_with fail
  rw [unhide HW]
  refine (unhide q0).mono ?_
  rintro e w1 ⟨⟨m1, rfl, a1, b1⟩, mk⟩
  replace R := hide (mk.row hhi (unhide R))
  replace M := hide ((unhide M).trans mk)
  replace S1 := hide ((unhide S1).mv mk)
  replace S2 := hide ((unhide S2).mv mk)
  have q1 := hide (markG_w lo hi h1 m1 w1 (Nat.le_trans zW mk.b.size) n1 (by omega) (by omega) (unhide S1))
  have z1 : lo ≤ w1.heap.size := Nat.le_trans zW mk.b.size
  clear mk q0 HW S1
  have c1 := (unhide R).at (o := 1) (v := .slice h1.a h1.len h1.cap) rfl
  go_wp2_with fail
  refine (unhide q1).mono ?_
  rintro e w2 ⟨⟨m2, rfl, a2, b2⟩, mk⟩
  replace R := hide (mk.row hhi (unhide R))
  replace M := hide ((unhide M).trans mk)
  replace S2 := hide ((unhide S2).mv mk)
  have q2 := hide (markX_w lo hi h2 m2 w2 (Nat.le_trans z1 mk.b.size) n2 (by omega) (by omega) (unhide S2))
  clear mk q1 S2 c1
  have c2 := (unhide R).at (o := 2) (v := .slice h2.a h2.len h2.cap) rfl
  go_wp2_with fail
  refine (unhide q2).mono ?_
  rintro e w3 ⟨⟨m3, rfl, a3, b3⟩, mk⟩
  replace M := hide ((unhide M).trans mk)
  clear mk q2 c2 R
  go_wp2_with fail
  go_ret
  exact ⟨⟨m3, rfl, by omega⟩, unhide M⟩
theorem shI_of {w : World} {lo : Nat} {h : Hd} {l : List Int} (s : SqI w lo h l) (h0 : 0 < lo) : ShI w lo w.heap.size h := by
  rcases s.2 with e | ⟨b, off, e, hl, r⟩
  · exact .inl (by rw [s.1, e]; rfl)
  · refine .inr ⟨b, off, e, hl.in h0 r.z, ?_⟩
    intro i hi
    rw [s.1] at hi
    exact ⟨_, r.c i hi⟩
theorem shG_of {w : World} {lo : Nat} {h : Hd} {xs : List RoleGrantT} (s : SqRoleGrant w lo h xs) (h0 : 0 < lo) : ShG w lo w.heap.size h := by
  obtain ⟨l, rfl, s⟩ := s
  rcases s.2.1 with e | ⟨b, off, e, hl, r⟩
  · exact .inl (by rw [s.1, e]; rfl)
  · refine .inr ⟨b, off, e, hl.in h0 r.z, ?_, ?_, ?_, ?_, ?_, ?_⟩ <;> intro i hi <;> rw [s.1] at hi
    · exact ⟨_, r.c0 i hi⟩
    · exact ⟨_, r.c1 i hi⟩
    · exact ⟨_, r.c2 i hi⟩
    · exact ⟨_, r.c3 i hi⟩
    · exact ⟨_, r.c4 i hi⟩
    · exact ⟨_, r.c5 i hi⟩
theorem shX_of {w : World} {lo : Nat} {h : Hd} {xs : List RoleSessionT} (s : SqRoleSession w lo h xs) (hm : ∀ q ∈ xs, RoleSessionSm q) (h0 : 0 < lo) : ShX w lo w.heap.size h := by
  obtain ⟨l, rfl, s⟩ := s
  rcases s.2.1 with e | ⟨b, off, e, hl, r⟩
  · exact .inl (by rw [s.1, e]; rfl)
  · refine .inr ⟨b, off, e, hl.in h0 r.z, ?_, ?_, ?_, ?_, ?_⟩ <;> intro i hi <;> rw [s.1] at hi
    · exact ⟨_, r.c0 i hi⟩
    · exact ⟨_, r.c1 i hi⟩
    · have m := s.2.2 _ (List.getElem_mem hi)
      have z := hm _ (List.mem_map_of_mem (List.getElem_mem hi))
      exact ⟨_, r.c2 i hi, by rw [m.m2.1]; exact z.l2, shS_of m.m2 h0⟩
    · have m := s.2.2 _ (List.getElem_mem hi)
      have z := hm _ (List.mem_map_of_mem (List.getElem_mem hi))
      exact ⟨_, r.c3 i hi, by rw [m.m3.len]; exact z.l3, shG_of m.m3 h0⟩
    · exact ⟨_, r.c4 i hi⟩
end Go.Proofs.YtfbncneeimikcaaGreat.V
