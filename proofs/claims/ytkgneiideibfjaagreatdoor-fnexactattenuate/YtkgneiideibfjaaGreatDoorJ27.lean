/- KGt, KGm, one behind the other. -/
import Derived.Test.YtkgneiideibfjaaGreatDoorRTer
import Derived.Laws.AppendOwn
import Derived.Lib.SlBytesRow
import Derived.Lib.BufferRead
import Derived.Lib.SmallJoins
import Derived.OwnWalk
/- laws.markText. -/
namespace Go.Proofs.YtkgneiideibfjaaGreatDoor.V
open Go.RowKit

def byteV (c : UInt8) : Value := .int .u8 (c.toNat : Int)
theorem conv_own {w : World} {base : Nat} {v : Value} {l : List UInt8} (h : w.ownsRow base 5 1 v l.length (l.map byteV)) :
    (convert 23 9 v).run Tryz.prog w = .ok (.string ⟨l.toArray⟩) w := by
  rcases h.2 with ⟨rfl, e⟩ | ⟨g, cap, cur, rfl, _, hh, _, _, hsz, htk⟩
  · have : l = [] := List.length_eq_zero_iff.1 e
    subst this
    exact Go.Lib.run_convert_nil_bytes w 23 9 5 0 Tryz.underlying23 Tryz.underlying5 Tryz.underlying9
  · have := Go.Lib.run_convert_whole (P := Tryz.prog) w 23 5 9 Tryz.underlying23 Tryz.underlying5 Tryz.underlying9 g 0 ⟨l.toArray⟩ (fun i hi => by
      have hi' : i < l.length := hi
      have hr : RowIs w g cur 5 := hh
      have f0 : (l.map byteV)[i]? = some (.int .u8 (l[i].toNat : Int)) := by simp [byteV, hi']
      rw [← htk, List.getElem?_take] at f0
      rw [Nat.zero_add, hr.cell, ← Array.getElem?_toList]
      split at f0
      · exact f0
      · cases f0) cap
    exact this

/-- The digits of n, ahead of O. -/
def mtx (n : Nat) (O : ByteArray) : ByteArray := if _h : n = 0 then O else mtx (n / 10) ((⟨#[UInt8.ofNat (48 + n % 10)]⟩ : ByteArray) ++ O)
termination_by n
decreasing_by omega
theorem mtx_zero (O : ByteArray) : mtx 0 O = O := by rw [mtx]; simp
theorem mtx_step {n : Nat} (h : ¬ n = 0) (O : ByteArray) : mtx n O = mtx (n / 10) ((⟨#[UInt8.ofNat (48 + n % 10)]⟩ : ByteArray) ++ O) := by
  conv => lhs; rw [mtx]
  rw [dif_neg h]
def mt (n : Nat) : ByteArray := (⟨#[109]⟩ : ByteArray) ++ mtx n ⟨#[]⟩

theorem own_new (w : World) (c : UInt8) : (w.alloc (.cells #[.int .u8 (c.toNat : Int)] 5)).ownsRow w.heap.size 5 1 (.slice (some ⟨w.heap.size, 0, none⟩) 1 1) ([c] : List UInt8).length (([c] : List UInt8).map byteV) := by
  refine ⟨by simp, .inr ⟨w.heap.size, 1, #[.int .u8 (c.toNat : Int)], rfl, Nat.le_refl _, ?_, Nat.le_refl _, by decide, by simp, by simp [byteV]⟩⟩
  exact RowIs.new w #[.int .u8 (c.toNat : Int)] 5

set_option maxRecDepth 100000 in
set_option maxHeartbeats 1000000 in
theorem markText_any (K : Nat) (w : World) (h1 : 1 ≤ K) (h2 : K ≤ 400000000) :
    Calls Tryz.prog 49 #[.int .i64 K] w fun e w' => e = .returned (.string (mt K)) ∧ Below w.heap.size w w' := by
  have hk0 : ¬ (K : Int) ≤ 0 := by omega
  obtain ⟨M, hM⟩ : ∃ M, mtx K ⟨#[]⟩ = M := ⟨_, rfl⟩
  have HM := hide hM
  have hmt : mt K = (⟨#[109]⟩ : ByteArray) ++ M := by unfold mt; rw [hM]
  rw [hmt]
  clear hmt hM
  go_enter Tryz.func49, Tryz.ntmps49
  go_wp2_with fail
  go_loopw [0, 3] (fun q v w' => ∃ (n : Nat) (O : ByteArray), q = .int .i64 n ∧ v = .string O ∧ O.size + n ≤ 400000000 ∧ Hid (mtx n O = M) ∧ Hid (Below w.heap.size w w')) (fun q _ _ => (intOf q).toNat)
  case atStart => exact ⟨K, ⟨#[]⟩, rfl, rfl, by show 0 + K ≤ _; omega, HM, hide (Below.refl _ _)⟩
  case round =>
    obtain ⟨n, O, rfl, rfl, hz, hm, hb⟩ := hrel
    by_cases hn : n = 0
    · subst hn
      have eM := hide (show O = M by rw [← unhide hm, mtx_zero])
      have q1 : ¬ 9223372036854775806 < O.size := by omega
      have q2 : O.size ≤ 9223372036854775806 := by omega
      have q3 : ¬ 9223372036854775807 < 1 + O.size := by omega
      have q4 : 1 + O.size ≤ 9223372036854775807 := by omega
      go_wp2_with fail
      go_ret
      exact ⟨by rw [unhide eM]; rfl, unhide hb⟩
    · obtain ⟨c, hc⟩ : ∃ c, UInt8.ofNat (48 + n % 10) = c := ⟨_, rfl⟩
      have st := hide (show mtx (n / 10) ((⟨#[c]⟩ : ByteArray) ++ O) = M by rw [← unhide hm, mtx_step hn, hc])
      have hcc : (48 : Int) + (n : Int) % 10 = (c.toNat : Int) := by
        rw [← hc, UInt8.toNat_ofNat']
        omega
      have cv : (convert 23 9 (.slice (some ⟨wr.heap.size, 0, none⟩) 1 1)).run Tryz.prog (wr.alloc (.cells #[.int .u8 (c.toNat : Int)] 5)) = .ok (.string ⟨#[c]⟩) (wr.alloc (.cells #[.int .u8 (c.toNat : Int)] 5)) := conv_own (own_new wr c)
      have hp : (0 : Int) < (n : Int) := by omega
      have q1 : ¬ 9223372036854775806 < O.size := by omega
      have q2 : O.size ≤ 9223372036854775806 := by omega
      have q3 : ¬ 9223372036854775807 < 1 + O.size := by omega
      have q4 : 1 + O.size ≤ 9223372036854775807 := by omega
      have hlt : n / 10 < n := by omega
      have c256 := c.toNat_lt
      clear hc
      go_wp2_with fail
      refine ⟨⟨n / 10, (⟨#[c]⟩ : ByteArray) ++ O, ?_, rfl, ?_, st, hide (bAl (unhide hb) _)⟩, by simp [intOf]; omega⟩
      · rw [show (n : Int) / 10 = ((n / 10 : Nat) : Int) by omega]
      · rw [ByteArray.size_append]
        show 1 + O.size + n / 10 ≤ _
        omega

theorem gB {w w' : World} (row : Option Nat) (h : Below w.heap.size w w') : w.grownBy w' row := ⟨h.os, h.tape, h.output, h.size, fun k hk _ => h.block k hk⟩
theorem gSet (w : World) (g o : Nat) (v : Value) : w.grownBy (w.setCell ⟨g, o, none⟩ v) (some g) :=
  ⟨rfl, rfl, rfl, by simp [World.setCell], fun k _ hne => heap_setCell_other w ⟨g, o, none⟩ k v (by simpa using hne)⟩
theorem gBel {B : Nat} {w w' : World} {row : Option Nat} (h : w.grownBy w' row) (hB : B ≤ w.heap.size) (hr : ∀ k, row = some k → B ≤ k) : Below B w w' := (Below.refl B w).grown h hB hr
end Go.Proofs.YtkgneiideibfjaaGreatDoor.V
/- laws.markCavTermS, laws.heldCavTermS: a row of 7 cells an element. -/
namespace Go.Proofs.YtkgneiideibfjaaGreatDoor.V
open Go.RowKit

def MCCavTerm (C : Array Value) (o j : Nat) : Prop := C[o]? = some (.string (mt (j + 0))) ∧ C[o + 1]? = some (.int .i64 ((j : Int) + 1)) ∧ C[o + 2]? = some (.string (mt (j + 2))) ∧ C[o + 3]? = some (.int .i64 ((j : Int) + 1 + 1 + 1)) ∧ C[o + 4]? = some (.int .i64 ((j : Int) + 1 + 1 + 1 + 1)) ∧ C[o + 5]? = some (.string (mt (j + 5))) ∧ C[o + 6]? = some (.string (mt (j + 6)))
def MarkedCavTerm (C : Array Value) (s n : Nat) : Prop := ∀ i, i < n → MCCavTerm C (i * 7) (s + i * 7)
def MarksCavTerm (w : World) (v : Value) (s n : Nat) : Prop := (v = .slice none 0 0 ∧ n = 0) ∨ ∃ g cap C, v = .slice (some ⟨g, 0, none⟩) n cap ∧ RowIs w g C 39 ∧ MarkedCavTerm C s n
theorem MarksCavTerm.keep {w w' : World} {v : Value} {s n : Nat} (h : MarksCavTerm w v s n) (hb : Below w.heap.size w w') : MarksCavTerm w' v s n :=
  h.imp_right fun ⟨g, cap, C, e, r, m⟩ => ⟨g, cap, C, e, r.keep hb, m⟩
theorem MarkedCavTerm.set {C : Array Value} {s k j : Nat} (h : MarkedCavTerm C s k) (hs : k * 7 + 6 < C.size) (hj : j = s + k * 7) {V0 V1 V2 V3 V4 V5 V6 : Value} (e0 : V0 = .string (mt (j + 0))) (e1 : V1 = .int .i64 ((j : Int) + 1)) (e2 : V2 = .string (mt (j + 2))) (e3 : V3 = .int .i64 ((j : Int) + 1 + 1 + 1)) (e4 : V4 = .int .i64 ((j : Int) + 1 + 1 + 1 + 1)) (e5 : V5 = .string (mt (j + 5))) (e6 : V6 = .string (mt (j + 6))) : MarkedCavTerm (((((((C.setIfInBounds (k * 7) (V0)).setIfInBounds (k * 7 + 1) (V1)).setIfInBounds (k * 7 + 2) (V2)).setIfInBounds (k * 7 + 3) (V3)).setIfInBounds (k * 7 + 4) (V4)).setIfInBounds (k * 7 + 5) (V5)).setIfInBounds (k * 7 + 6) (V6)) s (k + 1) := by
  intro i hi
  unfold MCCavTerm
  by_cases e : i = k
  · subst e
    subst hj
    subst e0 e1 e2 e3 e4 e5 e6
    have s0 : i * 7 < C.size := by omega
    have s1 : i * 7 + 1 < C.size := by omega
    have s2 : i * 7 + 2 < C.size := by omega
    have s3 : i * 7 + 3 < C.size := by omega
    have s4 : i * 7 + 4 < C.size := by omega
    have s5 : i * 7 + 5 < C.size := by omega
    have s6 : i * 7 + 6 < C.size := by omega
    simp [s0, s1, s2, s3, s4, s5, s6]
  · have := h i (by omega)
    unfold MCCavTerm at this
    simp only [Array.getElem?_setIfInBounds]
    repeat rw [if_neg (by omega)]
    exact this

set_option maxRecDepth 100000 in
set_option maxHeartbeats 4000000 in
theorem markCavTerm_row (g n cap s : Nat) (C0 : Array Value) (w : World) (hn : n ≤ 1048576) (hs1 : 1 ≤ s) (hs9 : s ≤ 100000000) (hC : n * 7 ≤ C0.size) (hr : RowIs w g C0 39) :
    Calls Tryz.prog 29 #[.slice (some ⟨g, 0, none⟩) n cap, .int .i64 s] w fun e w' => e = .returned (.int .i64 ((s + n * 7 : Nat) : Int)) ∧ (∃ C, RowIs w' g C 39 ∧ MarkedCavTerm C s n) ∧ w.grownBy w' (some g) := by
  have HR := hide hr
  clear hr
  go_enter Tryz.func29, Tryz.ntmps29
  go_wp2_with fail
  go_loopw [1, 5] (fun q i w' => ∃ (k j : Nat) (C : Array Value), k ≤ n ∧ i = .int .i64 k ∧ q = .int .i64 j ∧ 1 ≤ j ∧ j ≤ 200000000 ∧ Hid (j = s + k * 7) ∧ Hid (RowIs w' g C 39) ∧ Hid (n * 7 ≤ C.size) ∧ Hid (MarkedCavTerm C s k) ∧ Hid (w.grownBy w' (some g))) (fun _ i _ => n - (intOf i).toNat)
  case atStart => exact ⟨0, s, C0, Nat.zero_le _, rfl, rfl, hs1, by omega, hide (by omega), HR, hide hC, hide (fun i h => absurd h (Nat.not_lt_zero _)), hide (World.grownBy.refl _ _)⟩
  case round =>
    obtain ⟨k, j, C, hk, rfl, rfl, hj1, hj2, hj, hR, hCs, hM, hb⟩ := hrel
    by_cases hlt : k < n
    · have i0 : (0 : Int) ≤ (k : Int) := by omega
      have i1 : (k : Int) < (n : Int) := by omega
      have ej : j ≤ 109437184 := by have := unhide hj; omega
      have s9 : k * 7 + 6 < C.size := by have := unhide hCs; omega
      obtain ⟨X0, hX0⟩ : ∃ X, X = mt (j + 0) := ⟨_, rfl⟩
      have q0 : Hid (∀ w, Calls Tryz.prog 49 #[.int .i64 ((j : Int))] w fun e w' => e = .returned (.string X0) ∧ Below w.heap.size w w') := hide (fun w => by have := markText_any (j + 0) w (by omega) (by omega); rw [hX0]; rwa [show ((j + 0 : Nat) : Int) = (j : Int) by omega] at this)
      obtain ⟨X2, hX2⟩ : ∃ X, X = mt (j + 2) := ⟨_, rfl⟩
      have q2 : Hid (∀ w, Calls Tryz.prog 49 #[.int .i64 ((j : Int) + 1 + 1)] w fun e w' => e = .returned (.string X2) ∧ Below w.heap.size w w') := hide (fun w => by have := markText_any (j + 2) w (by omega) (by omega); rw [hX2]; rwa [show ((j + 2 : Nat) : Int) = (j : Int) + 1 + 1 by omega] at this)
      obtain ⟨X5, hX5⟩ : ∃ X, X = mt (j + 5) := ⟨_, rfl⟩
      have q5 : Hid (∀ w, Calls Tryz.prog 49 #[.int .i64 ((j : Int) + 1 + 1 + 1 + 1 + 1)] w fun e w' => e = .returned (.string X5) ∧ Below w.heap.size w w') := hide (fun w => by have := markText_any (j + 5) w (by omega) (by omega); rw [hX5]; rwa [show ((j + 5 : Nat) : Int) = (j : Int) + 1 + 1 + 1 + 1 + 1 by omega] at this)
      obtain ⟨X6, hX6⟩ : ∃ X, X = mt (j + 6) := ⟨_, rfl⟩
      have q6 : Hid (∀ w, Calls Tryz.prog 49 #[.int .i64 ((j : Int) + 1 + 1 + 1 + 1 + 1 + 1)] w fun e w' => e = .returned (.string X6) ∧ Below w.heap.size w w') := hide (fun w => by have := markText_any (j + 6) w (by omega) (by omega); rw [hX6]; rwa [show ((j + 6 : Nat) : Int) = (j : Int) + 1 + 1 + 1 + 1 + 1 + 1 by omega] at this)
      have stM := hide ((unhide hM).set (j := j) (V0 := .string X0) (V1 := .int .i64 ((j : Int) + 1)) (V2 := .string X2) (V3 := .int .i64 ((j : Int) + 1 + 1 + 1)) (V4 := .int .i64 ((j : Int) + 1 + 1 + 1 + 1)) (V5 := .string X5) (V6 := .string X6) s9 (unhide hj) (by rw [hX0]) rfl (by rw [hX2]) rfl rfl (by rw [hX5]) (by rw [hX6]))
      clear hX0 hX2 hX5 hX6
      have R0 := hR
      have B0 := hb
      clear hR hb hM
      go_wp2_with fail
      refine (unhide q0 _).mono ?_
      rintro e w1 ⟨rfl, hb0⟩
      have B0a := hide ((unhide B0).trans (gB (some g) hb0))
      have R0a := hide ((unhide R0).keep hb0)
      clear hb0 q0 R0 B0
      have f0 := (unhide R0a).froz (k * 7)
      have g0 := (unhide R0a).cell (k * 7)
      obtain ⟨D0, d0⟩ : ∃ D, (C)[k * 7]? = some D := ⟨_, Array.getElem?_eq_getElem (by first | omega | (simp; omega))⟩
      rw [d0] at g0
      clear d0
      have f1 := (unhide R0a).froz (k * 7 + 1)
      have g1 := (unhide R0a).cell (k * 7 + 1)
      obtain ⟨D1, d1⟩ : ∃ D, (C)[k * 7 + 1]? = some D := ⟨_, Array.getElem?_eq_getElem (by first | omega | (simp; omega))⟩
      rw [d1] at g1
      clear d1
      have R2 := hide (((unhide R0a).set (k * 7) (.string X0)).set (k * 7 + 1) (.int .i64 ((j : Int) + 1)))
      have B2 := hide (((unhide B0a).trans (gSet _ g (k * 7) (.string X0))).trans (gSet _ g (k * 7 + 1) (.int .i64 ((j : Int) + 1))))
      clear R0a B0a
      go_wp2_with fail
      refine (unhide q2 _).mono ?_
      rintro e w3 ⟨rfl, hb2⟩
      have B2a := hide ((unhide B2).trans (gB (some g) hb2))
      have R2a := hide ((unhide R2).keep hb2)
      clear hb2 q2 R2 B2
      have f2 := (unhide R2a).froz (k * 7 + 2)
      have g2 := (unhide R2a).cell (k * 7 + 2)
      obtain ⟨D2, d2⟩ : ∃ D, (((C.setIfInBounds (k * 7) (.string X0)).setIfInBounds (k * 7 + 1) (.int .i64 ((j : Int) + 1))))[k * 7 + 2]? = some D := ⟨_, Array.getElem?_eq_getElem (by first | omega | (simp; omega))⟩
      rw [d2] at g2
      clear d2
      have f3 := (unhide R2a).froz (k * 7 + 3)
      have g3 := (unhide R2a).cell (k * 7 + 3)
      obtain ⟨D3, d3⟩ : ∃ D, (((C.setIfInBounds (k * 7) (.string X0)).setIfInBounds (k * 7 + 1) (.int .i64 ((j : Int) + 1))))[k * 7 + 3]? = some D := ⟨_, Array.getElem?_eq_getElem (by first | omega | (simp; omega))⟩
      rw [d3] at g3
      clear d3
      have f4 := (unhide R2a).froz (k * 7 + 3 + 1)
      have g4 := (unhide R2a).cell (k * 7 + 3 + 1)
      obtain ⟨D4, d4⟩ : ∃ D, (((C.setIfInBounds (k * 7) (.string X0)).setIfInBounds (k * 7 + 1) (.int .i64 ((j : Int) + 1))))[k * 7 + 3 + 1]? = some D := ⟨_, Array.getElem?_eq_getElem (by first | omega | (simp; omega))⟩
      rw [d4] at g4
      clear d4
      have R5 := hide ((((unhide R2a).set (k * 7 + 2) (.string X2)).set (k * 7 + 3) (.int .i64 ((j : Int) + 1 + 1 + 1))).set (k * 7 + 3 + 1) (.int .i64 ((j : Int) + 1 + 1 + 1 + 1)))
      have B5 := hide ((((unhide B2a).trans (gSet _ g (k * 7 + 2) (.string X2))).trans (gSet _ g (k * 7 + 3) (.int .i64 ((j : Int) + 1 + 1 + 1)))).trans (gSet _ g (k * 7 + 3 + 1) (.int .i64 ((j : Int) + 1 + 1 + 1 + 1))))
      clear R2a B2a
      go_wp2_with fail
      refine (unhide q5 _).mono ?_
      rintro e w6 ⟨rfl, hb5⟩
      have B5a := hide ((unhide B5).trans (gB (some g) hb5))
      have R5a := hide ((unhide R5).keep hb5)
      clear hb5 q5 R5 B5
      have f5 := (unhide R5a).froz (k * 7 + 3 + 2)
      have g5 := (unhide R5a).cell (k * 7 + 3 + 2)
      obtain ⟨D5, d5⟩ : ∃ D, ((((((C.setIfInBounds (k * 7) (.string X0)).setIfInBounds (k * 7 + 1) (.int .i64 ((j : Int) + 1))).setIfInBounds (k * 7 + 2) (.string X2)).setIfInBounds (k * 7 + 3) (.int .i64 ((j : Int) + 1 + 1 + 1))).setIfInBounds (k * 7 + 3 + 1) (.int .i64 ((j : Int) + 1 + 1 + 1 + 1))))[k * 7 + 3 + 2]? = some D := ⟨_, Array.getElem?_eq_getElem (by first | omega | (simp; omega))⟩
      rw [d5] at g5
      clear d5
      have R6 := hide ((unhide R5a).set (k * 7 + 3 + 2) (.string X5))
      have B6 := hide ((unhide B5a).trans (gSet _ g (k * 7 + 3 + 2) (.string X5)))
      clear R5a B5a
      go_wp2_with fail
      refine (unhide q6 _).mono ?_
      rintro e w7 ⟨rfl, hb6⟩
      have B6a := hide ((unhide B6).trans (gB (some g) hb6))
      have R6a := hide ((unhide R6).keep hb6)
      clear hb6 q6 R6 B6
      have f6 := (unhide R6a).froz (k * 7 + 3 + 3)
      have g6 := (unhide R6a).cell (k * 7 + 3 + 3)
      obtain ⟨D6, d6⟩ : ∃ D, (((((((C.setIfInBounds (k * 7) (.string X0)).setIfInBounds (k * 7 + 1) (.int .i64 ((j : Int) + 1))).setIfInBounds (k * 7 + 2) (.string X2)).setIfInBounds (k * 7 + 3) (.int .i64 ((j : Int) + 1 + 1 + 1))).setIfInBounds (k * 7 + 3 + 1) (.int .i64 ((j : Int) + 1 + 1 + 1 + 1))).setIfInBounds (k * 7 + 3 + 2) (.string X5)))[k * 7 + 3 + 3]? = some D := ⟨_, Array.getElem?_eq_getElem (by first | omega | (simp; omega))⟩
      rw [d6] at g6
      clear d6
      have R7 := hide ((unhide R6a).set (k * 7 + 3 + 3) (.string X6))
      have B7 := hide ((unhide B6a).trans (gSet _ g (k * 7 + 3 + 3) (.string X6)))
      clear R6a B6a
      go_wp2_with fail
      exact ⟨⟨k + 1, j + 7, _, by omega, by go_num, by go_num, by omega, by omega, hide (by have := unhide hj; omega), R7, hide (by simp; exact unhide hCs), stM, B7⟩, by simp [intOf]; omega⟩
    · have e : k = n := by omega
      have ej := hide (show j = s + n * 7 by rw [← e]; exact unhide hj)
      go_wp2_with fail
      go_ret
      exact ⟨by rw [unhide ej]; rfl, ⟨C, unhide hR, by rw [← e]; exact unhide hM⟩, unhide hb⟩

set_option maxRecDepth 100000 in
set_option maxHeartbeats 4000000 in
theorem heldCavTerm_row (g n cap s : Nat) (C : Array Value) (w : World) (hn : n ≤ 1048576) (hs1 : 1 ≤ s) (hs9 : s ≤ 100000000) (hr : RowIs w g C 39) (hM : MarkedCavTerm C s n) :
    Calls Tryz.prog 31 #[.slice (some ⟨g, 0, none⟩) n cap, .int .i64 s] w fun e w' => e = .returned (.int .i64 ((s + n * 7 : Nat) : Int)) ∧ Below w.heap.size w w' := by
  have HR := hide hr
  have HM := hide hM
  clear hr hM
  go_enter Tryz.func31, Tryz.ntmps31
  go_wp2_with fail
  go_loopw [1, 5] (fun q i w' => ∃ (k j : Nat), k ≤ n ∧ i = .int .i64 k ∧ q = .int .i64 j ∧ 1 ≤ j ∧ j ≤ 200000000 ∧ Hid (j = s + k * 7) ∧ Hid (Below w.heap.size w w')) (fun _ i _ => n - (intOf i).toNat)
  case atStart => exact ⟨0, s, Nat.zero_le _, rfl, rfl, hs1, by omega, hide (by omega), hide (Below.refl _ _)⟩
  case round =>
    obtain ⟨k, j, hk, rfl, rfl, hj1, hj2, hj, hb⟩ := hrel
    by_cases hlt : k < n
    · have mk := unhide HM k hlt
      rw [← unhide hj] at mk
      unfold MCCavTerm at mk
      obtain ⟨m0, m1, m2, m3, m4, m5, m6⟩ := mk
      have i0 : (0 : Int) ≤ (k : Int) := by omega
      have i1 : (k : Int) < (n : Int) := by omega
      have ej : j ≤ 109437184 := by have := unhide hj; omega
      have R0 := (unhide HR).keep (unhide hb)
      have zr := R0.lt
      have c0 := R0.at m0
      have c1 := R0.at m1
      have c2 := R0.at m2
      have c3 := R0.at m3
      have c4 := R0.at m4
      have c5 := R0.at m5
      have c6 := R0.at m6
      clear R0 m0 m1 m2 m3 m4 m5 m6
      obtain ⟨X0, hX0⟩ : ∃ X, X = mt (j + 0) := ⟨_, rfl⟩
      have q0 : Hid (∀ w, Calls Tryz.prog 49 #[.int .i64 ((j : Int))] w fun e w' => e = .returned (.string X0) ∧ Below w.heap.size w w') := hide (fun w => by have := markText_any (j + 0) w (by omega) (by omega); rw [hX0]; rwa [show ((j + 0 : Nat) : Int) = (j : Int) by omega] at this)
      rw [← hX0] at c0
      clear hX0
      obtain ⟨X2, hX2⟩ : ∃ X, X = mt (j + 2) := ⟨_, rfl⟩
      have q2 : Hid (∀ w, Calls Tryz.prog 49 #[.int .i64 ((j : Int) + 1 + 1)] w fun e w' => e = .returned (.string X2) ∧ Below w.heap.size w w') := hide (fun w => by have := markText_any (j + 2) w (by omega) (by omega); rw [hX2]; rwa [show ((j + 2 : Nat) : Int) = (j : Int) + 1 + 1 by omega] at this)
      rw [← hX2] at c2
      clear hX2
      obtain ⟨X5, hX5⟩ : ∃ X, X = mt (j + 5) := ⟨_, rfl⟩
      have q5 : Hid (∀ w, Calls Tryz.prog 49 #[.int .i64 ((j : Int) + 1 + 1 + 1 + 1 + 1)] w fun e w' => e = .returned (.string X5) ∧ Below w.heap.size w w') := hide (fun w => by have := markText_any (j + 5) w (by omega) (by omega); rw [hX5]; rwa [show ((j + 5 : Nat) : Int) = (j : Int) + 1 + 1 + 1 + 1 + 1 by omega] at this)
      rw [← hX5] at c5
      clear hX5
      obtain ⟨X6, hX6⟩ : ∃ X, X = mt (j + 6) := ⟨_, rfl⟩
      have q6 : Hid (∀ w, Calls Tryz.prog 49 #[.int .i64 ((j : Int) + 1 + 1 + 1 + 1 + 1 + 1)] w fun e w' => e = .returned (.string X6) ∧ Below w.heap.size w w') := hide (fun w => by have := markText_any (j + 6) w (by omega) (by omega); rw [hX6]; rwa [show ((j + 6 : Nat) : Int) = (j : Int) + 1 + 1 + 1 + 1 + 1 + 1 by omega] at this)
      rw [← hX6] at c6
      clear hX6
      have B0 := hb
      clear hb
      have ne : Nonempty (Kept wr) := ⟨⟨wr, Below.refl _ _⟩⟩
      have e0 := kept_cell zr c0
      go_wp2_with fail
      refine wp_region_kept (by kernel_rfl) (by kernel_rfl) ?_
      repeat (first
        | go_big_quiet_step ((go_at_call 49; exact kept_call (unhide q0 _)))
        | quiet_step ((go_at_call 49; exact kept_call (unhide q0 _))))
      refine wpQuiet_nil ?_
      rintro _ ⟨q, rfl⟩
      clear ne e0 q0
      obtain ⟨w1, hb0⟩ := q
      replace c1 := cellB hb0 zr c1
      replace c2 := cellB hb0 zr c2
      replace c3 := cellB hb0 zr c3
      replace c4 := cellB hb0 zr c4
      replace c5 := cellB hb0 zr c5
      replace c6 := cellB hb0 zr c6
      clear c0
      replace zr := Nat.lt_of_lt_of_le zr hb0.size
      have B1 := hide (bTr (unhide B0) hb0)
      clear B0
      have ne : Nonempty (Kept w1) := ⟨⟨w1, Below.refl _ _⟩⟩
      have e2 := kept_cell zr c2
      go_wp2_with fail
      refine wp_region_kept (by kernel_rfl) (by kernel_rfl) ?_
      repeat (first
        | go_big_quiet_step ((go_at_call 49; exact kept_call (unhide q2 _)))
        | quiet_step ((go_at_call 49; exact kept_call (unhide q2 _))))
      refine wpQuiet_nil ?_
      rintro _ ⟨q, rfl⟩
      clear ne e2 q2
      obtain ⟨w3, hb2⟩ := q
      replace c3 := cellB hb2 zr c3
      replace c4 := cellB hb2 zr c4
      replace c5 := cellB hb2 zr c5
      replace c6 := cellB hb2 zr c6
      clear c1 c2
      replace zr := Nat.lt_of_lt_of_le zr hb2.size
      have B3 := hide (bTr (unhide B1) hb2)
      clear B1
      have ne : Nonempty (Kept w3) := ⟨⟨w3, Below.refl _ _⟩⟩
      have e5 := kept_cell zr c5
      go_wp2_with fail
      refine wp_region_kept (by kernel_rfl) (by kernel_rfl) ?_
      repeat (first
        | go_big_quiet_step ((go_at_call 49; exact kept_call (unhide q5 _)))
        | quiet_step ((go_at_call 49; exact kept_call (unhide q5 _))))
      refine wpQuiet_nil ?_
      rintro _ ⟨q, rfl⟩
      clear ne e5 q5
      obtain ⟨w6, hb5⟩ := q
      replace c6 := cellB hb5 zr c6
      clear c3 c4 c5
      replace zr := Nat.lt_of_lt_of_le zr hb5.size
      have B6 := hide (bTr (unhide B3) hb5)
      clear B3
      have ne : Nonempty (Kept w6) := ⟨⟨w6, Below.refl _ _⟩⟩
      have e6 := kept_cell zr c6
      go_wp2_with fail
      refine wp_region_kept (by kernel_rfl) (by kernel_rfl) ?_
      repeat (first
        | go_big_quiet_step ((go_at_call 49; exact kept_call (unhide q6 _)))
        | quiet_step ((go_at_call 49; exact kept_call (unhide q6 _))))
      refine wpQuiet_nil ?_
      rintro _ ⟨q, rfl⟩
      clear ne e6 q6
      obtain ⟨w7, hb6⟩ := q
      clear c6
      replace zr := Nat.lt_of_lt_of_le zr hb6.size
      have B7 := hide (bTr (unhide B6) hb6)
      clear B6
      go_wp2_with fail
      exact ⟨⟨k + 1, j + 7, by omega, by go_num, by go_num, by omega, by omega, hide (by have := unhide hj; omega), B7⟩, by simp [intOf]; omega⟩
    · have e : k = n := by omega
      have ej := hide (show j = s + n * 7 by rw [← e]; exact unhide hj)
      go_wp2_with fail
      go_ret
      exact ⟨by rw [unhide ej]; rfl, unhide hb⟩

theorem markCavTerm_own (v : Value) (n s : Nat) (xs : List Value) (base : Nat) (w : World) (hn : n ≤ 1048576) (hs1 : 1 ≤ s) (hs9 : s ≤ 100000000) (h : w.ownsRow base 39 7 v n xs) :
    Calls Tryz.prog 29 #[v, .int .i64 s] w fun e w' => e = .returned (.int .i64 ((s + n * 7 : Nat) : Int)) ∧ MarksCavTerm w' v s n ∧ w.grownBy w' v.ownBlock := by
  rcases h.2 with ⟨rfl, e0⟩ | ⟨g, cap, cur, rfl, _, hh, hc, _, hsz, _⟩
  · go_enter Tryz.func29, Tryz.ntmps29
    go_wp2_with fail
    go_loopw [1, 5] (fun q i w' => i = .int .i64 0 ∧ q = .int .i64 s ∧ w = w') (fun _ _ _ => 0)
    case atStart => exact ⟨rfl, rfl, rfl⟩
    case round =>
      obtain ⟨rfl, rfl, rfl⟩ := hrel
      go_wp2_with fail
      go_ret
      exact ⟨by rw [e0]; simp, .inl ⟨rfl, e0⟩, World.grownBy.refl _ _⟩
  · have hr : RowIs w g cur 39 := hh
    refine (markCavTerm_row g n cap s cur w hn hs1 hs9 (by rw [hsz]; exact Nat.mul_le_mul_right _ hc) hr).mono ?_
    rintro e w' ⟨rfl, ⟨C, hr', hM⟩, hb⟩
    exact ⟨rfl, .inr ⟨g, cap, C, rfl, hr', hM⟩, hb⟩
theorem heldCavTerm_own (v : Value) (n s : Nat) (w : World) (hn : n ≤ 1048576) (hs1 : 1 ≤ s) (hs9 : s ≤ 100000000) (h : MarksCavTerm w v s n) :
    Calls Tryz.prog 31 #[v, .int .i64 s] w fun e w' => e = .returned (.int .i64 ((s + n * 7 : Nat) : Int)) ∧ Below w.heap.size w w' := by
  rcases h with ⟨rfl, rfl⟩ | ⟨g, cap, C, rfl, hr, hM⟩
  · go_enter Tryz.func31, Tryz.ntmps31
    go_wp2_with fail
    go_loop [1, 5] (fun q i => i = .int .i64 0 ∧ q = .int .i64 s) (fun _ _ => 0)
    case atStart => exact ⟨rfl, rfl⟩
    case round =>
      obtain ⟨rfl, rfl⟩ := hrel
      go_wp2_with fail
      go_ret
      exact ⟨by simp, Below.refl _ _⟩
  · exact heldCavTerm_row g n cap s C w hn hs1 hs9 hr hM
end Go.Proofs.YtkgneiideibfjaaGreatDoor.V
