/- SMk, WSli, one behind the other. -/
import Derived.Test.YtpfekkhnjaopdaaGreatJ10
import Derived.Laws.AppendOwn
import Derived.Lib.SlBytesRow
import Derived.Lib.BufferRead
import Derived.Lib.SmallJoins
import Derived.OwnWalk
import Derived.Test.YtpfekkhnjaopdaaGreatJ2
import Derived.Test.YtpfekkhnjaopdaaGreatJ5
/- BMkT, BMkA, BMkX, BMkV behind SBase. -/
/- laws.markText. -/
namespace Go.Proofs.YtpfekkhnjaopdaaGreat.V
open Go.RowKit

def byteV (c : UInt8) : Value := .int .u8 (c.toNat : Int)
theorem conv_own {w : World} {base : Nat} {v : Value} {l : List UInt8} (h : w.ownsRow base 5 1 v l.length (l.map byteV)) :
    (convert 101 9 v).run Tryz.prog w = .ok (.string ⟨l.toArray⟩) w := by
  rcases h.2 with ⟨rfl, e⟩ | ⟨g, cap, cur, rfl, _, hh, _, _, hsz, htk⟩
  · have : l = [] := List.length_eq_zero_iff.1 e
    subst this
    exact Go.Lib.run_convert_nil_bytes w 101 9 5 0 Tryz.underlying101 Tryz.underlying5 Tryz.underlying9
  · have := Go.Lib.run_convert_whole (P := Tryz.prog) w 101 5 9 Tryz.underlying101 Tryz.underlying5 Tryz.underlying9 g 0 ⟨l.toArray⟩ (fun i hi => by
      have hi' : i < l.length := hi
      have hr : RowIs w g cur 5 := hh
      have f0 : (l.map byteV)[i]? = some (.int .u8 (l[i].toNat : Int)) := by simp [byteV, hi']
      rw [← htk, List.getElem?_take] at f0
      rw [Nat.zero_add, hr.cell, ← Array.getElem?_toList]
      split at f0
      · exact f0
      · cases f0) cap
    exact this

/-- The digits of n, ahead of O. -/
def mtx (n : Nat) (O : ByteArray) : ByteArray := if _h : n = 0 then O else mtx (n / 10) ((⟨#[UInt8.ofNat (48 + n % 10)]⟩ : ByteArray) ++ O)
termination_by n
decreasing_by omega
theorem mtx_zero (O : ByteArray) : mtx 0 O = O := by rw [mtx]; simp
theorem mtx_step {n : Nat} (h : ¬ n = 0) (O : ByteArray) : mtx n O = mtx (n / 10) ((⟨#[UInt8.ofNat (48 + n % 10)]⟩ : ByteArray) ++ O) := by
  conv => lhs; rw [mtx]
  rw [dif_neg h]
def mt (n : Nat) : ByteArray := (⟨#[109]⟩ : ByteArray) ++ mtx n ⟨#[]⟩

theorem own_new (w : World) (c : UInt8) : (w.alloc (.cells #[.int .u8 (c.toNat : Int)] 5)).ownsRow w.heap.size 5 1 (.slice (some ⟨w.heap.size, 0, none⟩) 1 1) ([c] : List UInt8).length (([c] : List UInt8).map byteV) := by
  refine ⟨by simp, .inr ⟨w.heap.size, 1, #[.int .u8 (c.toNat : Int)], rfl, Nat.le_refl _, ?_, Nat.le_refl _, by decide, by simp, by simp [byteV]⟩⟩
  exact RowIs.new w #[.int .u8 (c.toNat : Int)] 5

set_option maxRecDepth 100000 in
set_option maxHeartbeats 1000000 in
theorem markText_any (K : Nat) (w : World) (h1 : 1 ≤ K) (h2 : K ≤ 9000000000000000000) :
    Calls Tryz.prog 33 #[.int .i64 K] w fun e w' => e = .returned (.string (mt K)) ∧ Below w.heap.size w w' := by
  have hk0 : ¬ (K : Int) ≤ 0 := by omega
  obtain ⟨M, hM⟩ : ∃ M, mtx K ⟨#[]⟩ = M := ⟨_, rfl⟩
  have HM := hide hM
  have hmt : mt K = (⟨#[109]⟩ : ByteArray) ++ M := by unfold mt; rw [hM]
  rw [hmt]
  clear hmt hM
  go_enter Tryz.func33, Tryz.ntmps33
  go_wp2_with fail
  go_loopw [0, 3] (fun q v w' => ∃ (n : Nat) (O : ByteArray), q = .int .i64 n ∧ v = .string O ∧ O.size + n ≤ 9000000000000000000 ∧ Hid (mtx n O = M) ∧ Hid (Below w.heap.size w w')) (fun q _ _ => (intOf q).toNat)
  case atStart => exact ⟨K, ⟨#[]⟩, rfl, rfl, by show 0 + K ≤ _; omega, HM, hide (Below.refl _ _)⟩
  case round =>
    obtain ⟨n, O, rfl, rfl, hz, hm, hb⟩ := hrel
    by_cases hn : n = 0
    · subst hn
      have eM := hide (show O = M by rw [← unhide hm, mtx_zero])
      have q1 : ¬ 9223372036854775806 < O.size := by omega
      have q2 : O.size ≤ 9223372036854775806 := by omega
      have q3 : ¬ 9223372036854775807 < 1 + O.size := by omega
      have q4 : 1 + O.size ≤ 9223372036854775807 := by omega
      go_wp2_with fail
      go_ret
      exact ⟨by rw [unhide eM]; rfl, unhide hb⟩
    · obtain ⟨c, hc⟩ : ∃ c, UInt8.ofNat (48 + n % 10) = c := ⟨_, rfl⟩
      have st := hide (show mtx (n / 10) ((⟨#[c]⟩ : ByteArray) ++ O) = M by rw [← unhide hm, mtx_step hn, hc])
      have hcc : (48 : Int) + (n : Int) % 10 = (c.toNat : Int) := by
        rw [← hc, UInt8.toNat_ofNat']
        omega
      have cv : (convert 101 9 (.slice (some ⟨wr.heap.size, 0, none⟩) 1 1)).run Tryz.prog (wr.alloc (.cells #[.int .u8 (c.toNat : Int)] 5)) = .ok (.string ⟨#[c]⟩) (wr.alloc (.cells #[.int .u8 (c.toNat : Int)] 5)) := conv_own (own_new wr c)
      have hp : (0 : Int) < (n : Int) := by omega
      have q1 : ¬ 9223372036854775806 < O.size := by omega
      have q2 : O.size ≤ 9223372036854775806 := by omega
      have q3 : ¬ 9223372036854775807 < 1 + O.size := by omega
      have q4 : 1 + O.size ≤ 9223372036854775807 := by omega
      have hlt : n / 10 < n := by omega
      have c256 := c.toNat_lt
      clear hc
      go_wp2_with fail
      refine ⟨⟨n / 10, (⟨#[c]⟩ : ByteArray) ++ O, ?_, rfl, ?_, st, hide (bAl (unhide hb) _)⟩, by simp [intOf]; omega⟩
      · rw [show (n : Int) / 10 = ((n / 10 : Nat) : Int) by omega]
      · rw [ByteArray.size_append]
        show 1 + O.size + n / 10 ≤ _
        omega

theorem gB {w w' : World} (row : Option Nat) (h : Below w.heap.size w w') : w.grownBy w' row := ⟨h.os, h.tape, h.output, h.size, fun k hk _ => h.block k hk⟩
theorem gSet (w : World) (g o : Nat) (v : Value) : w.grownBy (w.setCell ⟨g, o, none⟩ v) (some g) :=
  ⟨rfl, rfl, rfl, by simp [World.setCell], fun k _ hne => heap_setCell_other w ⟨g, o, none⟩ k v (by simpa using hne)⟩
theorem gBel {B : Nat} {w w' : World} {row : Option Nat} (h : w.grownBy w' row) (hB : B ≤ w.heap.size) (hr : ∀ k, row = some k → B ≤ k) : Below B w w' := (Below.refl B w).grown h hB hr
end Go.Proofs.YtpfekkhnjaopdaaGreat.V
/- laws.markAtomS, laws.heldAtomS: a row of 4 cells an element. -/
namespace Go.Proofs.YtpfekkhnjaopdaaGreat.V
open Go.RowKit

def MCAtom (C : Array Value) (o j : Nat) : Prop := C[o]? = some (.int .i64 ((j : Int))) ∧ C[o + 1]? = some (.int .i64 ((j : Int) + 1)) ∧ C[o + 2]? = some (.string (mt (j + 2))) ∧ C[o + 3]? = some (.string (mt (j + 3)))
def MarkedAtom (C : Array Value) (s n : Nat) : Prop := ∀ i, i < n → MCAtom C (i * 4) (s + i * 4)
def MarksAtom (w : World) (v : Value) (s n : Nat) : Prop := (v = .slice none 0 0 ∧ n = 0) ∨ ∃ g cap C, v = .slice (some ⟨g, 0, none⟩) n cap ∧ RowIs w g C 31 ∧ MarkedAtom C s n
theorem MarksAtom.keep {w w' : World} {v : Value} {s n : Nat} (h : MarksAtom w v s n) (hb : Below w.heap.size w w') : MarksAtom w' v s n :=
  h.imp_right fun ⟨g, cap, C, e, r, m⟩ => ⟨g, cap, C, e, r.keep hb, m⟩
theorem MarkedAtom.set {C : Array Value} {s k j : Nat} (h : MarkedAtom C s k) (hs : k * 4 + 3 < C.size) (hj : j = s + k * 4) {V0 V1 V2 V3 : Value} (e0 : V0 = .int .i64 ((j : Int))) (e1 : V1 = .int .i64 ((j : Int) + 1)) (e2 : V2 = .string (mt (j + 2))) (e3 : V3 = .string (mt (j + 3))) : MarkedAtom ((((C.setIfInBounds (k * 4) (V0)).setIfInBounds (k * 4 + 1) (V1)).setIfInBounds (k * 4 + 2) (V2)).setIfInBounds (k * 4 + 3) (V3)) s (k + 1) := by
  intro i hi
  unfold MCAtom
  by_cases e : i = k
  · subst e
    subst hj
    subst e0 e1 e2 e3
    have s0 : i * 4 < C.size := by omega
    have s1 : i * 4 + 1 < C.size := by omega
    have s2 : i * 4 + 2 < C.size := by omega
    have s3 : i * 4 + 3 < C.size := by omega
    simp [s0, s1, s2, s3]
  · have := h i (by omega)
    unfold MCAtom at this
    simp only [Array.getElem?_setIfInBounds]
    repeat rw [if_neg (by omega)]
    exact this

set_option maxRecDepth 100000 in
set_option maxHeartbeats 4000000 in
theorem markAtom_row (g n cap s : Nat) (C0 : Array Value) (w : World) (hn : n ≤ 1048576) (hs1 : 1 ≤ s) (hs9 : s ≤ 100000000) (hC : n * 4 ≤ C0.size) (hr : RowIs w g C0 31) :
    Calls Tryz.prog 14 #[.slice (some ⟨g, 0, none⟩) n cap, .int .i64 s] w fun e w' => e = .returned (.int .i64 ((s + n * 4 : Nat) : Int)) ∧ (∃ C, RowIs w' g C 31 ∧ MarkedAtom C s n) ∧ w.grownBy w' (some g) := by
  have HR := hide hr
  clear hr
  go_enter Tryz.func14, Tryz.ntmps14
  go_wp2_with fail
  go_loopw [1, 5] (fun q i w' => ∃ (k j : Nat) (C : Array Value), k ≤ n ∧ i = .int .i64 k ∧ q = .int .i64 j ∧ 1 ≤ j ∧ j ≤ 200000000 ∧ Hid (j = s + k * 4) ∧ Hid (RowIs w' g C 31) ∧ Hid (n * 4 ≤ C.size) ∧ Hid (MarkedAtom C s k) ∧ Hid (w.grownBy w' (some g))) (fun _ i _ => n - (intOf i).toNat)
  case atStart => exact ⟨0, s, C0, Nat.zero_le _, rfl, rfl, hs1, by omega, hide (by omega), HR, hide hC, hide (fun i h => absurd h (Nat.not_lt_zero _)), hide (World.grownBy.refl _ _)⟩
  case round =>
    obtain ⟨k, j, C, hk, rfl, rfl, hj1, hj2, hj, hR, hCs, hM, hb⟩ := hrel
    by_cases hlt : k < n
    · have i0 : (0 : Int) ≤ (k : Int) := by omega
      have i1 : (k : Int) < (n : Int) := by omega
      have ej : j ≤ 109437184 := by have := unhide hj; omega
      have s9 : k * 4 + 3 < C.size := by have := unhide hCs; omega
      obtain ⟨X2, hX2⟩ : ∃ X, X = mt (j + 2) := ⟨_, rfl⟩
      have q2 : Hid (∀ w, Calls Tryz.prog 33 #[.int .i64 ((j : Int) + 1 + 1)] w fun e w' => e = .returned (.string X2) ∧ Below w.heap.size w w') := hide (fun w => by have := markText_any (j + 2) w (by omega) (by omega); rw [hX2]; rwa [show ((j + 2 : Nat) : Int) = (j : Int) + 1 + 1 by omega] at this)
      obtain ⟨X3, hX3⟩ : ∃ X, X = mt (j + 3) := ⟨_, rfl⟩
      have q3 : Hid (∀ w, Calls Tryz.prog 33 #[.int .i64 ((j : Int) + 1 + 1 + 1)] w fun e w' => e = .returned (.string X3) ∧ Below w.heap.size w w') := hide (fun w => by have := markText_any (j + 3) w (by omega) (by omega); rw [hX3]; rwa [show ((j + 3 : Nat) : Int) = (j : Int) + 1 + 1 + 1 by omega] at this)
      have stM := hide ((unhide hM).set (j := j) (V0 := .int .i64 ((j : Int))) (V1 := .int .i64 ((j : Int) + 1)) (V2 := .string X2) (V3 := .string X3) s9 (unhide hj) rfl rfl (by rw [hX2]) (by rw [hX3]))
      clear hX2 hX3
      have R0 := hR
      have B0 := hb
      clear hR hb hM
      have f0 := (unhide R0).froz (k * 4)
      have g0 := (unhide R0).cell (k * 4)
      obtain ⟨D0, d0⟩ : ∃ D, (C)[k * 4]? = some D := ⟨_, Array.getElem?_eq_getElem (by first | omega | (simp; omega))⟩
      rw [d0] at g0
      clear d0
      have f1 := (unhide R0).froz (k * 4 + 1)
      have g1 := (unhide R0).cell (k * 4 + 1)
      obtain ⟨D1, d1⟩ : ∃ D, (C)[k * 4 + 1]? = some D := ⟨_, Array.getElem?_eq_getElem (by first | omega | (simp; omega))⟩
      rw [d1] at g1
      clear d1
      have R2 := hide (((unhide R0).set (k * 4) (.int .i64 ((j : Int)))).set (k * 4 + 1) (.int .i64 ((j : Int) + 1)))
      have B2 := hide (((unhide B0).trans (gSet _ g (k * 4) (.int .i64 ((j : Int))))).trans (gSet _ g (k * 4 + 1) (.int .i64 ((j : Int) + 1))))
      clear R0 B0
      go_wp2_with fail
      refine (unhide q2 _).mono ?_
      rintro e w3 ⟨rfl, hb2⟩
      have B2a := hide ((unhide B2).trans (gB (some g) hb2))
      have R2a := hide ((unhide R2).keep hb2)
      clear hb2 q2 R2 B2
      have f2 := (unhide R2a).froz (k * 4 + 2)
      have g2 := (unhide R2a).cell (k * 4 + 2)
      obtain ⟨D2, d2⟩ : ∃ D, (((C.setIfInBounds (k * 4) (.int .i64 ((j : Int)))).setIfInBounds (k * 4 + 1) (.int .i64 ((j : Int) + 1))))[k * 4 + 2]? = some D := ⟨_, Array.getElem?_eq_getElem (by first | omega | (simp; omega))⟩
      rw [d2] at g2
      clear d2
      have R3 := hide ((unhide R2a).set (k * 4 + 2) (.string X2))
      have B3 := hide ((unhide B2a).trans (gSet _ g (k * 4 + 2) (.string X2)))
      clear R2a B2a
      go_wp2_with fail
      refine (unhide q3 _).mono ?_
      rintro e w4 ⟨rfl, hb3⟩
      have B3a := hide ((unhide B3).trans (gB (some g) hb3))
      have R3a := hide ((unhide R3).keep hb3)
      clear hb3 q3 R3 B3
      have f3 := (unhide R3a).froz (k * 4 + 3)
      have g3 := (unhide R3a).cell (k * 4 + 3)
      obtain ⟨D3, d3⟩ : ∃ D, ((((C.setIfInBounds (k * 4) (.int .i64 ((j : Int)))).setIfInBounds (k * 4 + 1) (.int .i64 ((j : Int) + 1))).setIfInBounds (k * 4 + 2) (.string X2)))[k * 4 + 3]? = some D := ⟨_, Array.getElem?_eq_getElem (by first | omega | (simp; omega))⟩
      rw [d3] at g3
      clear d3
      have R4 := hide ((unhide R3a).set (k * 4 + 3) (.string X3))
      have B4 := hide ((unhide B3a).trans (gSet _ g (k * 4 + 3) (.string X3)))
      clear R3a B3a
      go_wp2_with fail
      exact ⟨⟨k + 1, j + 4, _, by omega, by go_num, by go_num, by omega, by omega, hide (by have := unhide hj; omega), R4, hide (by simp; exact unhide hCs), stM, B4⟩, by simp [intOf]; omega⟩
    · have e : k = n := by omega
      have ej := hide (show j = s + n * 4 by rw [← e]; exact unhide hj)
      go_wp2_with fail
      go_ret
      exact ⟨by rw [unhide ej]; rfl, ⟨C, unhide hR, by rw [← e]; exact unhide hM⟩, unhide hb⟩

set_option maxRecDepth 100000 in
set_option maxHeartbeats 4000000 in
theorem heldAtom_row (g n cap s : Nat) (C : Array Value) (w : World) (hn : n ≤ 1048576) (hs1 : 1 ≤ s) (hs9 : s ≤ 100000000) (hr : RowIs w g C 31) (hM : MarkedAtom C s n) :
    Calls Tryz.prog 15 #[.slice (some ⟨g, 0, none⟩) n cap, .int .i64 s] w fun e w' => e = .returned (.int .i64 ((s + n * 4 : Nat) : Int)) ∧ Below w.heap.size w w' := by
  have HR := hide hr
  have HM := hide hM
  clear hr hM
  go_enter Tryz.func15, Tryz.ntmps15
  go_wp2_with fail
  go_loopw [1, 5] (fun q i w' => ∃ (k j : Nat), k ≤ n ∧ i = .int .i64 k ∧ q = .int .i64 j ∧ 1 ≤ j ∧ j ≤ 200000000 ∧ Hid (j = s + k * 4) ∧ Hid (Below w.heap.size w w')) (fun _ i _ => n - (intOf i).toNat)
  case atStart => exact ⟨0, s, Nat.zero_le _, rfl, rfl, hs1, by omega, hide (by omega), hide (Below.refl _ _)⟩
  case round =>
    obtain ⟨k, j, hk, rfl, rfl, hj1, hj2, hj, hb⟩ := hrel
    by_cases hlt : k < n
    · have mk := unhide HM k hlt
      rw [← unhide hj] at mk
      unfold MCAtom at mk
      obtain ⟨m0, m1, m2, m3⟩ := mk
      have i0 : (0 : Int) ≤ (k : Int) := by omega
      have i1 : (k : Int) < (n : Int) := by omega
      have ej : j ≤ 109437184 := by have := unhide hj; omega
      have R0 := (unhide HR).keep (unhide hb)
      have zr := R0.lt
      have c0 := R0.at m0
      have c1 := R0.at m1
      have c2 := R0.at m2
      have c3 := R0.at m3
      clear R0 m0 m1 m2 m3
      obtain ⟨X2, hX2⟩ : ∃ X, X = mt (j + 2) := ⟨_, rfl⟩
      have q2 : Hid (∀ w, Calls Tryz.prog 33 #[.int .i64 ((j : Int) + 1 + 1)] w fun e w' => e = .returned (.string X2) ∧ Below w.heap.size w w') := hide (fun w => by have := markText_any (j + 2) w (by omega) (by omega); rw [hX2]; rwa [show ((j + 2 : Nat) : Int) = (j : Int) + 1 + 1 by omega] at this)
      rw [← hX2] at c2
      clear hX2
      obtain ⟨X3, hX3⟩ : ∃ X, X = mt (j + 3) := ⟨_, rfl⟩
      have q3 : Hid (∀ w, Calls Tryz.prog 33 #[.int .i64 ((j : Int) + 1 + 1 + 1)] w fun e w' => e = .returned (.string X3) ∧ Below w.heap.size w w') := hide (fun w => by have := markText_any (j + 3) w (by omega) (by omega); rw [hX3]; rwa [show ((j + 3 : Nat) : Int) = (j : Int) + 1 + 1 + 1 by omega] at this)
      rw [← hX3] at c3
      clear hX3
      have B0 := hb
      clear hb
      have ne : Nonempty (Kept wr) := ⟨⟨wr, Below.refl _ _⟩⟩
      have e2 := kept_cell zr c2
      go_wp2_with fail
      refine wp_region_kept (by kernel_rfl) (by kernel_rfl) ?_
      repeat (first
        | go_big_quiet_step ((go_at_call 33; exact kept_call (unhide q2 _)))
        | quiet_step ((go_at_call 33; exact kept_call (unhide q2 _))))
      refine wpQuiet_nil ?_
      rintro _ ⟨q, rfl⟩
      clear ne e2 q2
      obtain ⟨w3, hb2⟩ := q
      replace c3 := cellB hb2 zr c3
      clear c0 c1 c2
      replace zr := Nat.lt_of_lt_of_le zr hb2.size
      have B3 := hide (bTr (unhide B0) hb2)
      clear B0
      have ne : Nonempty (Kept w3) := ⟨⟨w3, Below.refl _ _⟩⟩
      have e3 := kept_cell zr c3
      go_wp2_with fail
      refine wp_region_kept (by kernel_rfl) (by kernel_rfl) ?_
      repeat (first
        | go_big_quiet_step ((go_at_call 33; exact kept_call (unhide q3 _)))
        | quiet_step ((go_at_call 33; exact kept_call (unhide q3 _))))
      refine wpQuiet_nil ?_
      rintro _ ⟨q, rfl⟩
      clear ne e3 q3
      obtain ⟨w4, hb3⟩ := q
      clear c3
      replace zr := Nat.lt_of_lt_of_le zr hb3.size
      have B4 := hide (bTr (unhide B3) hb3)
      clear B3
      go_wp2_with fail
      exact ⟨⟨k + 1, j + 4, by omega, by go_num, by go_num, by omega, by omega, hide (by have := unhide hj; omega), B4⟩, by simp [intOf]; omega⟩
    · have e : k = n := by omega
      have ej := hide (show j = s + n * 4 by rw [← e]; exact unhide hj)
      go_wp2_with fail
      go_ret
      exact ⟨by rw [unhide ej]; rfl, unhide hb⟩

theorem markAtom_own (v : Value) (n s : Nat) (xs : List Value) (base : Nat) (w : World) (hn : n ≤ 1048576) (hs1 : 1 ≤ s) (hs9 : s ≤ 100000000) (h : w.ownsRow base 31 4 v n xs) :
    Calls Tryz.prog 14 #[v, .int .i64 s] w fun e w' => e = .returned (.int .i64 ((s + n * 4 : Nat) : Int)) ∧ MarksAtom w' v s n ∧ w.grownBy w' v.ownBlock := by
  rcases h.2 with ⟨rfl, e0⟩ | ⟨g, cap, cur, rfl, _, hh, hc, _, hsz, _⟩
  · go_enter Tryz.func14, Tryz.ntmps14
    go_wp2_with fail
    go_loopw [1, 5] (fun q i w' => i = .int .i64 0 ∧ q = .int .i64 s ∧ w = w') (fun _ _ _ => 0)
    case atStart => exact ⟨rfl, rfl, rfl⟩
    case round =>
      obtain ⟨rfl, rfl, rfl⟩ := hrel
      go_wp2_with fail
      go_ret
      exact ⟨by rw [e0]; simp, .inl ⟨rfl, e0⟩, World.grownBy.refl _ _⟩
  · have hr : RowIs w g cur 31 := hh
    refine (markAtom_row g n cap s cur w hn hs1 hs9 (by rw [hsz]; exact Nat.mul_le_mul_right _ hc) hr).mono ?_
    rintro e w' ⟨rfl, ⟨C, hr', hM⟩, hb⟩
    exact ⟨rfl, .inr ⟨g, cap, C, rfl, hr', hM⟩, hb⟩
theorem heldAtom_own (v : Value) (n s : Nat) (w : World) (hn : n ≤ 1048576) (hs1 : 1 ≤ s) (hs9 : s ≤ 100000000) (h : MarksAtom w v s n) :
    Calls Tryz.prog 15 #[v, .int .i64 s] w fun e w' => e = .returned (.int .i64 ((s + n * 4 : Nat) : Int)) ∧ Below w.heap.size w w' := by
  rcases h with ⟨rfl, rfl⟩ | ⟨g, cap, C, rfl, hr, hM⟩
  · go_enter Tryz.func15, Tryz.ntmps15
    go_wp2_with fail
    go_loop [1, 5] (fun q i => i = .int .i64 0 ∧ q = .int .i64 s) (fun _ _ => 0)
    case atStart => exact ⟨rfl, rfl⟩
    case round =>
      obtain ⟨rfl, rfl⟩ := hrel
      go_wp2_with fail
      go_ret
      exact ⟨by simp, Below.refl _ _⟩
  · exact heldAtom_row g n cap s C w hn hs1 hs9 hr hM
end Go.Proofs.YtpfekkhnjaopdaaGreat.V
/- laws.markStringS, laws.heldStringS: a row of 1 cells an element. -/
namespace Go.Proofs.YtpfekkhnjaopdaaGreat.V
open Go.RowKit

def MCStr (C : Array Value) (o j : Nat) : Prop := C[o]? = some (.string (mt (j + 0)))
def MarkedStr (C : Array Value) (s n : Nat) : Prop := ∀ i, i < n → MCStr C (i) (s + i)
def MarksStr (w : World) (v : Value) (s n : Nat) : Prop := (v = .slice none 0 0 ∧ n = 0) ∨ ∃ g cap C, v = .slice (some ⟨g, 0, none⟩) n cap ∧ RowIs w g C 9 ∧ MarkedStr C s n
theorem MarksStr.keep {w w' : World} {v : Value} {s n : Nat} (h : MarksStr w v s n) (hb : Below w.heap.size w w') : MarksStr w' v s n :=
  h.imp_right fun ⟨g, cap, C, e, r, m⟩ => ⟨g, cap, C, e, r.keep hb, m⟩
theorem MarkedStr.set {C : Array Value} {s k j : Nat} (h : MarkedStr C s k) (hs : k + 0 < C.size) (hj : j = s + k) {V0 : Value} (e0 : V0 = .string (mt (j + 0))) : MarkedStr (C.setIfInBounds (k) (V0)) s (k + 1) := by
  intro i hi
  unfold MCStr
  by_cases e : i = k
  · subst e
    subst hj
    subst e0
    have s0 : i < C.size := by omega
    simp [s0]
  · have := h i (by omega)
    unfold MCStr at this
    simp only [Array.getElem?_setIfInBounds]
    repeat rw [if_neg (by omega)]
    exact this

set_option maxRecDepth 100000 in
set_option maxHeartbeats 4000000 in
theorem markStr_row (g n cap s : Nat) (C0 : Array Value) (w : World) (hn : n ≤ 1048576) (hs1 : 1 ≤ s) (hs9 : s ≤ 100000000) (hC : n ≤ C0.size) (hr : RowIs w g C0 9) :
    Calls Tryz.prog 34 #[.slice (some ⟨g, 0, none⟩) n cap, .int .i64 s] w fun e w' => e = .returned (.int .i64 ((s + n : Nat) : Int)) ∧ (∃ C, RowIs w' g C 9 ∧ MarkedStr C s n) ∧ w.grownBy w' (some g) := by
  have HR := hide hr
  clear hr
  go_enter Tryz.func34, Tryz.ntmps34
  go_wp2_with fail
  go_loopw [1, 5] (fun q i w' => ∃ (k j : Nat) (C : Array Value), k ≤ n ∧ i = .int .i64 k ∧ q = .int .i64 j ∧ 1 ≤ j ∧ j ≤ 200000000 ∧ Hid (j = s + k) ∧ Hid (RowIs w' g C 9) ∧ Hid (n ≤ C.size) ∧ Hid (MarkedStr C s k) ∧ Hid (w.grownBy w' (some g))) (fun _ i _ => n - (intOf i).toNat)
  case atStart => exact ⟨0, s, C0, Nat.zero_le _, rfl, rfl, hs1, by omega, hide (by omega), HR, hide hC, hide (fun i h => absurd h (Nat.not_lt_zero _)), hide (World.grownBy.refl _ _)⟩
  case round =>
    obtain ⟨k, j, C, hk, rfl, rfl, hj1, hj2, hj, hR, hCs, hM, hb⟩ := hrel
    by_cases hlt : k < n
    · have i0 : (0 : Int) ≤ (k : Int) := by omega
      have i1 : (k : Int) < (n : Int) := by omega
      have ej : j ≤ 109437184 := by have := unhide hj; omega
      have s9 : k + 0 < C.size := by have := unhide hCs; omega
      obtain ⟨X0, hX0⟩ : ∃ X, X = mt (j + 0) := ⟨_, rfl⟩
      have q0 : Hid (∀ w, Calls Tryz.prog 33 #[.int .i64 ((j : Int))] w fun e w' => e = .returned (.string X0) ∧ Below w.heap.size w w') := hide (fun w => by have := markText_any (j + 0) w (by omega) (by omega); rw [hX0]; rwa [show ((j + 0 : Nat) : Int) = (j : Int) by omega] at this)
      have stM := hide ((unhide hM).set (j := j) (V0 := .string X0) s9 (unhide hj) (by rw [hX0]))
      clear hX0
      have R0 := hR
      have B0 := hb
      clear hR hb hM
      go_wp2_with fail
      refine (unhide q0 _).mono ?_
      rintro e w1 ⟨rfl, hb0⟩
      have B0a := hide ((unhide B0).trans (gB (some g) hb0))
      have R0a := hide ((unhide R0).keep hb0)
      clear hb0 q0 R0 B0
      have f0 := (unhide R0a).froz (k)
      have g0 := (unhide R0a).cell (k)
      obtain ⟨D0, d0⟩ : ∃ D, (C)[k]? = some D := ⟨_, Array.getElem?_eq_getElem (by first | omega | (simp; omega))⟩
      rw [d0] at g0
      clear d0
      have R1 := hide ((unhide R0a).set (k) (.string X0))
      have B1 := hide ((unhide B0a).trans (gSet _ g (k) (.string X0)))
      clear R0a B0a
      go_wp2_with fail
      exact ⟨⟨k + 1, j + 1, _, by omega, by go_num, by go_num, by omega, by omega, hide (by have := unhide hj; omega), R1, hide (by simp; exact unhide hCs), stM, B1⟩, by simp [intOf]; omega⟩
    · have e : k = n := by omega
      have ej := hide (show j = s + n by rw [← e]; exact unhide hj)
      go_wp2_with fail
      go_ret
      exact ⟨by rw [unhide ej]; rfl, ⟨C, unhide hR, by rw [← e]; exact unhide hM⟩, unhide hb⟩

theorem markStr_own (v : Value) (n s : Nat) (xs : List Value) (base : Nat) (w : World) (hn : n ≤ 1048576) (hs1 : 1 ≤ s) (hs9 : s ≤ 100000000) (h : w.ownsRow base 9 1 v n xs) :
    Calls Tryz.prog 34 #[v, .int .i64 s] w fun e w' => e = .returned (.int .i64 ((s + n : Nat) : Int)) ∧ MarksStr w' v s n ∧ w.grownBy w' v.ownBlock := by
  rcases h.2 with ⟨rfl, e0⟩ | ⟨g, cap, cur, rfl, _, hh, hc, _, hsz, _⟩
  · go_enter Tryz.func34, Tryz.ntmps34
    go_wp2_with fail
    go_loopw [1, 5] (fun q i w' => i = .int .i64 0 ∧ q = .int .i64 s ∧ w = w') (fun _ _ _ => 0)
    case atStart => exact ⟨rfl, rfl, rfl⟩
    case round =>
      obtain ⟨rfl, rfl, rfl⟩ := hrel
      go_wp2_with fail
      go_ret
      exact ⟨by rw [e0]; simp, .inl ⟨rfl, e0⟩, World.grownBy.refl _ _⟩
  · have hr : RowIs w g cur 9 := hh
    refine (markStr_row g n cap s cur w hn hs1 hs9 (by rw [hsz]; omega) hr).mono ?_
    rintro e w' ⟨rfl, ⟨C, hr', hM⟩, hb⟩
    exact ⟨rfl, .inr ⟨g, cap, C, rfl, hr', hM⟩, hb⟩
end Go.Proofs.YtpfekkhnjaopdaaGreat.V
/- laws.markValue, laws.heldValue. -/
namespace Go.Proofs.YtpfekkhnjaopdaaGreat.V
open Go.RowKit
set_option maxRecDepth 20000

theorem MarksAtom.grown {w w' : World} {v : Value} {s n : Nat} {r : Option Nat} (h : MarksAtom w v s n) (hg : w.grownBy w' r) (hne : v.ownBlock = none ∨ v.ownBlock ≠ r) : MarksAtom w' v s n := by
  rcases h with h | ⟨g, cap, C, e, hr, m⟩
  · exact .inl h
  · refine .inr ⟨g, cap, C, e, hr.grown hg (fun e2 => ?_), m⟩
    have eo : v.ownBlock = some g := by rw [e]; rfl
    rcases hne with h | h
    · rw [eo] at h; cases h
    · exact h (by rw [eo, e2])
structure MarksV (w : World) (v : ValT) (v1 v2 : Value) : Prop where
  a : MarksAtom w v1 1 v.items.length
  n : MarksStr w v2 (1 + v.items.length * 4) v.names.length
theorem MarksV.keep {w w' : World} {v : ValT} {v1 v2 : Value} (h : MarksV w v v1 v2) (hb : Below w.heap.size w w') : MarksV w' v v1 v2 := ⟨h.a.keep hb, h.n.keep hb⟩

end Go.Proofs.YtpfekkhnjaopdaaGreat.V
/- WSli, ported from seat 1a. -/
namespace Go.Proofs.YtpfekkhnjaopdaaGreat.V
open Go.RowKit

set_option maxHeartbeats 400000 in
theorem szAtomS_any (a : Option Addr) (len cap : Nat) (l : List AtomT) (left : Int) (w : World) (h0 : 0 ≤ left) (h1 : left ≤ 1048576) (hl : len ≤ maxLen) (hs : SlA w a len l) (hok : ∀ q ∈ l, AtomT.Ok q) :
    Calls Tryz.prog 40 #[.slice a len cap, .int .i64 left] w fun e w' => (∃ m : Int, -1 ≤ m ∧ m ≤ left ∧ (0 ≤ m → (len : Int) ≤ left) ∧ e = .returned (.int .i64 m)) ∧ Below w.heap.size w w' := by
  unfold maxLen at hl
  by_cases hlen : left < (len : Int)
  · go_enter Tryz.func40, Tryz.ntmps40
    go_wp2
    go_ret
    exact ⟨⟨-1, by omega, by omega, by omega, rfl⟩, Below.refl _ _⟩
  have d1 : decide (left - (len : Int) < 0) = false := by simp; omega
  have HS := hide hs
  clear hs
  go_enter Tryz.func40, Tryz.ntmps40
  go_wp2
  go_loopw [1, 5] (fun m i w' => ∃ (k : Nat) (q : Int), k ≤ len ∧ 0 ≤ q ∧ q ≤ left ∧ i = .int .i64 k ∧ m = .int .i64 q ∧ Below w.heap.size w w') (fun _ i _ => len - (intOf i).toNat)
  case atStart => exact ⟨0, _, Nat.zero_le _, by omega, by omega, rfl, rfl, Below.refl _ _⟩
  case round =>
    obtain ⟨k, q, hk, hq1, hq2, rfl, rfl, hbel⟩ := hrel
    by_cases hlt : k < len
    · obtain ⟨b, off, rfl, hrow⟩ := ((unhide HS).keep hbel).at hlt
      have hk' : k < l.length := by rw [← (unhide HS).1]; exact hlt
      obtain ⟨c0, c1, c2, c3⟩ := hrow.c k hk'
      have ho := hok _ (List.getElem_mem hk')
      have hz := hide (fun q w h0 h1 => szAtom_any (l[k]).x (l[k]).n q (l[k]).t (l[k]).y w h0 h1 ho.t9 ho.y9)
      clear hrow ho hok
      generalize l[k] = A at hz c0 c1 c2 c3
      go_wp2_with fail
      refine (unhide hz _ _ (by omega) (by omega)).mono ?_
      rintro e w1 ⟨⟨m, hm1, hm2, rfl⟩, hb1⟩
      by_cases hm : m < 0
      · go_wp2_with fail
        go_ret
        exact ⟨⟨-1, by omega, by omega, by omega, rfl⟩, bTr hbel hb1⟩
      · go_wp2_with fail
        exact ⟨⟨k + 1, m, by omega, by omega, by omega, by go_num, rfl, bTr hbel hb1⟩, by simp [intOf]; omega⟩
    · go_wp2_with fail
      go_ret
      exact ⟨⟨q, by omega, by omega, by omega, rfl⟩, hbel⟩

set_option maxHeartbeats 400000 in
theorem szStringS_any (a : Option Addr) (len cap : Nat) (l : List ByteArray) (left : Int) (w : World) (h0 : 0 ≤ left) (h1 : left ≤ 1048576) (hl : len ≤ maxLen) (hs : SlS w a len l) (hok : ∀ q ∈ l, ByteArray.size q ≤ maxLen) :
    Calls Tryz.prog 41 #[.slice a len cap, .int .i64 left] w fun e w' => (∃ m : Int, -1 ≤ m ∧ m ≤ left ∧ (0 ≤ m → (len : Int) ≤ left) ∧ e = .returned (.int .i64 m)) ∧ w = w' := by
  unfold maxLen at hl
  by_cases hlen : left < (len : Int)
  · go_enter Tryz.func41, Tryz.ntmps41
    go_wp2
    go_ret
    exact ⟨⟨-1, by omega, by omega, by omega, rfl⟩, rfl⟩
  have d1 : decide (left - (len : Int) < 0) = false := by simp; omega
  have HS := hide hs
  clear hs
  go_enter Tryz.func41, Tryz.ntmps41
  go_wp2
  go_loop [1, 5] (fun m i => ∃ (k : Nat) (q : Int), k ≤ len ∧ 0 ≤ q ∧ q ≤ left ∧ i = .int .i64 k ∧ m = .int .i64 q) (fun _ i => len - (intOf i).toNat)
  case atStart => exact ⟨0, _, Nat.zero_le _, by omega, by omega, rfl, rfl⟩
  case round =>
    obtain ⟨k, q, hk, hq1, hq2, rfl, rfl⟩ := hrel
    by_cases hlt : k < len
    · obtain ⟨b, off, rfl, hrow⟩ := (unhide HS).at hlt
      have hk' : k < l.length := by rw [← (unhide HS).1]; exact hlt
      have c0 := hrow.c k hk'
      have ho := hok _ (List.getElem_mem hk')
      clear hrow hok
      generalize l[k] = A at c0 ho
      unfold maxLen at ho
      by_cases hm : q - (A.size : Int) < 0
      · go_wp2_with fail
        go_ret
        exact ⟨⟨-1, by omega, by omega, rfl⟩, rfl⟩
      · go_wp2_with fail
        exact ⟨⟨k + 1, _, by omega, by omega, by omega, by go_num, rfl⟩, by simp [intOf]; omega⟩
    · go_wp2_with fail
      go_ret
      exact ⟨⟨q, by omega, by omega, rfl⟩, rfl⟩

/-- 'make([]impl.Atom, len)'. -/
theorem make_atoms (len : Nat) (w : World) (h : len ≤ 1048576) : ∃ w1 C, (Instr.makeSlice 27 (.int .i64 (len : Int)) (.int .i64 (len : Int))).run Tryz.prog w = .ok (.slice (some ⟨w.heap.size, 0, none⟩) len len) w1 ∧
    Below w.heap.size w w1 ∧ RowIs w1 w.heap.size C 31 ∧ C.size = len * 4 := by
  have hi : (Tryz.prog.info? 31).map (fun i => (i.zero, i.size, i.bytes)) = some (some (.agg #[.int .i64 0, .int .i64 0, .string ByteArray.empty, .string ByteArray.empty]), 4, 48) := by kernel_rfl
  obtain ⟨i, h1, h2⟩ := Option.map_eq_some_iff.1 hi
  simp only [Prod.mk.injEq] at h2
  obtain ⟨hz, hsz, hby⟩ := h2
  have hr := run_make (P := Tryz.prog) w 27 31 i _ Tryz.underlying27 h1 hz .i64 .i64 (len : Int) (len : Int) (by omega) (by omega) (by rw [hby]; omega) (by omega)
  rw [Int.toNat_natCast, hsz] at hr
  exact ⟨_, _, hr, bAl (Below.refl _ _) _, RowIs.new _ _ _, size_madeCells _ _⟩

theorem make_strings (len : Nat) (w : World) (h : len ≤ 1048576) : ∃ w1 C, (Instr.makeSlice 48 (.int .i64 (len : Int)) (.int .i64 (len : Int))).run Tryz.prog w = .ok (.slice (some ⟨w.heap.size, 0, none⟩) len len) w1 ∧
    Below w.heap.size w w1 ∧ RowIs w1 w.heap.size C 9 ∧ C.size = len := by
  have hi : (Tryz.prog.info? 9).map (fun i => (i.zero, i.size, i.bytes)) = some (some (.string ByteArray.empty), 1, 16) := by kernel_rfl
  obtain ⟨i, h1, h2⟩ := Option.map_eq_some_iff.1 hi
  simp only [Prod.mk.injEq] at h2
  obtain ⟨hz, hsz, hby⟩ := h2
  have hr := run_make (P := Tryz.prog) w 48 9 i _ Tryz.underlying48 h1 hz .i64 .i64 (len : Int) (len : Int) (by omega) (by omega) (by rw [hby]; omega) (by omega)
  rw [Int.toNat_natCast, hsz, Nat.mul_one] at hr
  exact ⟨_, _, hr, bAl (Below.refl _ _) _, RowIs.new _ _ _, size_madeCells _ _⟩

set_option maxHeartbeats 400000 in
theorem toStringS_any (a : Option Addr) (len cap : Nat) (l : List ByteArray) (w : World) (hl : len ≤ 1048576) (hs : SlS w a len l) :
    Calls Tryz.prog 50 #[.slice a len cap] w fun e w' => e = .returned (.slice (some ⟨w.heap.size, 0, none⟩) len len) ∧ StrRow w' w.heap.size 0 l ∧ Below w.heap.size w w' := by
  obtain ⟨w1, C1, hrun, hb1, hr1, hC1⟩ := make_strings len w hl
  have HS := hide hs
  have HB1 := hide hb1
  have HR1 := hide hr1
  clear hs hb1 hr1
  go_enter Tryz.func50, Tryz.ntmps50
  go_wp2
  clear hrun
  go_loopw [4] (fun i w' => ∃ (k : Nat) (C : Array Value), k ≤ len ∧ i = .int .i64 k ∧ Hid (Below w.heap.size w w') ∧ Hid (RowIs w' w.heap.size C 9) ∧ Hid (C.size = len) ∧ Hid (FilledS C l k)) (fun i _ => len - (intOf i).toNat)
  case atStart => exact ⟨0, C1, Nat.zero_le _, rfl, HB1, HR1, hide hC1, hide (fun i _ h => absurd h (Nat.not_lt_zero _))⟩
  case round =>
    obtain ⟨k, C, hk, rfl, hb, hr, hC, hF⟩ := hrel
    by_cases hlt : k < len
    · obtain ⟨b, off, rfl, hrow⟩ := ((unhide HS).keep (unhide hb)).at hlt
      have hk' : k < l.length := by rw [← (unhide HS).1]; exact hlt
      have c0 := hrow.c k hk'
      have fr := (unhide hr).froz k
      have hck : k < C.size := by rw [unhide hC]; exact hlt
      have c1 := (unhide hr).cell k
      rw [Array.getElem?_eq_getElem hck] at c1
      have hz : w.heap.size < wr.heap.size := (unhide hr).lt
      have hF' := hide ((unhide hF).set hk' (by rw [unhide hC]; exact (unhide HS).1))
      clear hrow hC1
      generalize l[k] = A at c0 hF'
      generalize C[k] = D at c1
      go_wp2_with fail
      exact ⟨⟨k + 1, C.setIfInBounds k (.string A), by omega, by go_num, hide ((unhide hb).setCell (Nat.le_refl _) _), hide ((unhide hr).set k _), hide (by rw [Array.size_setIfInBounds]; exact unhide hC), hF'⟩, by simp [intOf]; omega⟩
    · go_wp2_with fail
      go_ret
      have e : k = l.length := by rw [← (unhide HS).1]; omega
      exact ⟨rfl, FilledS.row (by rw [← e]; exact unhide hF) (unhide hr), unhide hb⟩
set_option maxHeartbeats 400000 in
theorem toAtomS_any (a : Option Addr) (len cap : Nat) (l : List AtomT) (w : World) (hl : len ≤ 1048576) (hs : SlA w a len l) :
    Calls Tryz.prog 49 #[.slice a len cap] w fun e w' => e = .returned (.slice (some ⟨w.heap.size, 0, none⟩) len len) ∧ AtomRow w' w.heap.size 0 l ∧ Below w.heap.size w w' := by
  obtain ⟨w1, C1, hrun, hb1, hr1, hC1⟩ := make_atoms len w hl
  have HS := hide hs
  have HB1 := hide hb1
  have HR1 := hide hr1
  clear hs hb1 hr1
  go_enter Tryz.func49, Tryz.ntmps49
  go_wp2
  clear hrun
  go_loopw [4] (fun i w' => ∃ (k : Nat) (C : Array Value), k ≤ len ∧ i = .int .i64 k ∧ Hid (Below w.heap.size w w') ∧ Hid (RowIs w' w.heap.size C 31) ∧ Hid (C.size = len * 4) ∧ Hid (Filled C l k)) (fun i _ => len - (intOf i).toNat)
  case atStart => exact ⟨0, C1, Nat.zero_le _, rfl, HB1, HR1, hide hC1, hide (fun i _ h => absurd h (Nat.not_lt_zero _))⟩
  case round =>
    obtain ⟨k, C, hk, rfl, hb, hr, hC, hF⟩ := hrel
    by_cases hlt : k < len
    · obtain ⟨b, off, rfl, hrow⟩ := ((unhide HS).keep (unhide hb)).at hlt
      have hk' : k < l.length := by rw [← (unhide HS).1]; exact hlt
      obtain ⟨c0, c1, c2, c3⟩ := hrow.c k hk'
      have hF' := hide ((unhide hF).set hk' (by rw [unhide hC, (unhide HS).1]))
      clear hrow hC1
      generalize l[k] = A at c0 c1 c2 c3 hF'
      go_wp2_with fail
      refine (toAtom_any _ _ _ _ _).mono ?_
      rintro e w2 ⟨rfl, hb2⟩
      replace hr := hide ((unhide hr).keep hb2)
      replace hb := hide (bTr (unhide hb) hb2)
      have f0 := (unhide hr).froz (k * 4)
      have f1 := (unhide hr).froz (k * 4 + 1)
      have f2 := (unhide hr).froz (k * 4 + 2)
      have f3 := (unhide hr).froz (k * 4 + 3)
      have s3 : k * 4 + 3 < C.size := by rw [unhide hC]; omega
      have g0 := (unhide hr).cell (k * 4)
      have g1 := (unhide hr).cell (k * 4 + 1)
      have g2 := (unhide hr).cell (k * 4 + 2)
      have g3 := (unhide hr).cell (k * 4 + 3)
      rw [Array.getElem?_eq_getElem (by omega)] at g0 g1 g2 g3
      generalize C[k * 4] = D0 at g0
      generalize C[k * 4 + 1] = D1 at g1
      generalize C[k * 4 + 2] = D2 at g2
      generalize C[k * 4 + 3] = D3 at g3
      clear c0 c1 c2 c3 hb2
      go_wp2_with fail
      refine ⟨⟨k + 1, set4 C k A, by omega, by go_num, hide ?_, hide ?_, hide (by rw [size_set4]; exact unhide hC), hF'⟩, by simp [intOf]; omega⟩
      · exact ((((unhide hb).setCell (Nat.le_refl _) _).setCell (Nat.le_refl _) _).setCell (Nat.le_refl _) _).setCell (Nat.le_refl _) _
      · exact ((((unhide hr).set _ _).set _ _).set _ _).set _ _
    · go_wp2_with fail
      go_ret
      have e : k = l.length := by rw [← (unhide HS).1]; omega
      exact ⟨rfl, Filled.row (by rw [← e]; exact unhide hF) (unhide hr), unhide hb⟩

set_option maxHeartbeats 1000000 in
theorem szValue_any (v : ValT) (hv : v.Ok) (a1 a2 : Option Addr) (l1 c1 l2 c2 : Nat) (left : Int) (w : World) (h0 : 0 ≤ left) (h1 : left ≤ 1048576) (hl1 : l1 ≤ maxLen) (hl2 : l2 ≤ maxLen)
    (hs1 : SlA w a1 l1 v.items) (hs2 : SlS w a2 l2 v.names) :
    Calls Tryz.prog 71 #[.agg #[.int .i64 v.k, .int .i64 v.a.x, .int .i64 v.a.n, .string v.a.t, .string v.a.y, .slice a1 l1 c1, .slice a2 l2 c2], .int .i64 left] w
      fun e w' => (∃ m : Int, -1 ≤ m ∧ m ≤ left ∧ (0 ≤ m → (l1 : Int) ≤ left ∧ (l2 : Int) ≤ left) ∧ e = .returned (.int .i64 m)) ∧ Below w.heap.size w w' := by
  have q1 := hide (fun q w h0 h1 => szAtom_any v.a.x v.a.n q v.a.t v.a.y w h0 h1 hv.a.t9 hv.a.y9)
  have q2 := hide (fun q w h0 h1 hs => szAtomS_any a1 l1 c1 v.items q w h0 h1 hl1 hs hv.items)
  have q3 := hide (fun q w h0 h1 hs => szStringS_any a2 l2 c2 v.names q w h0 h1 hl2 hs hv.names)
  have HS1 := hide hs1
  have HS2 := hide hs2
  clear hs1 hs2 hv hl1 hl2
  go_enter Tryz.func71, Tryz.ntmps71
  go_wp2_with fail
  refine (unhide q1 _ _ (by omega) (by omega)).mono ?_
  rintro e w1 ⟨⟨m1, ha1, ha2, rfl⟩, hb1⟩
  have bw := bTr (bAl (Below.refl _ _) _) hb1
  have qv := (ValAt.new w v (.slice a1 l1 c1) (.slice a2 l2 c2) 107).keep hb1
  obtain ⟨_, _, _, _, _, d5, _, _⟩ := hide qv
  clear hb1
  by_cases g1 : m1 < 0
  · go_wp2_with fail
    go_ret
    exact ⟨⟨-1, by omega, by omega, by omega, rfl⟩, bw⟩
  go_wp2_with fail
  refine (unhide q2 _ _ (by omega) (by omega) ((unhide HS1).keep bw)).mono ?_
  rintro e w2 ⟨⟨m2, hb1, hb2, hb3, rfl⟩, hb4⟩
  replace bw := bTr bw hb4
  replace qv := qv.keep hb4
  clear d5 hb4
  obtain ⟨_, _, _, _, _, _, d6, _⟩ := hide qv
  by_cases g2 : m2 < 0
  · go_wp2_with fail
    go_ret
    exact ⟨⟨-1, by omega, by omega, by omega, rfl⟩, bw⟩
  go_wp2_with fail
  refine (unhide q3 _ _ (by omega) (by omega) ((unhide HS2).keep bw)).mono ?_
  rintro e w3 ⟨⟨m3, hc1, hc2, hc3, rfl⟩, rfl⟩
  by_cases g3 : m3 < 0
  · go_wp2_with fail
    go_ret
    exact ⟨⟨-1, by omega, by omega, by omega, rfl⟩, bw⟩
  go_wp2_with fail
  go_ret
  exact ⟨⟨m3, by omega, by omega, by omega, rfl⟩, bw⟩

set_option maxHeartbeats 1000000 in
theorem toValue_any (v : ValT) (a1 a2 : Option Addr) (l1 c1 l2 c2 : Nat) (w : World) (hl1 : l1 ≤ 1048576) (hl2 : l2 ≤ 1048576)
    (hs1 : SlA w a1 l1 v.items) (hs2 : SlS w a2 l2 v.names) :
    Calls Tryz.prog 78 #[.agg #[.int .i64 v.k, .int .i64 v.a.x, .int .i64 v.a.n, .string v.a.t, .string v.a.y, .slice a1 l1 c1, .slice a2 l2 c2]] w
      fun e w' => ∃ b1 b2, e = .returned (.agg #[.int .i64 v.k, .int .i64 v.a.x, .int .i64 v.a.n, .string v.a.t, .string v.a.y, .slice (some ⟨b1, 0, none⟩) l1 l1, .slice (some ⟨b2, 0, none⟩) l2 l2])
        ∧ AtomRow w' b1 0 v.items ∧ StrRow w' b2 0 v.names ∧ Below w.heap.size w w' := by
  have q2 : Hid (∀ w, SlA w a1 l1 v.items → Calls Tryz.prog 49 #[.slice a1 l1 c1] w fun e w' => ∃ b, e = .returned (.slice (some ⟨b, 0, none⟩) l1 l1) ∧ w.heap.size ≤ b ∧ AtomRow w' b 0 v.items ∧ Below w.heap.size w w') :=
    hide (fun w hs => (toAtomS_any a1 l1 c1 v.items w hl1 hs).mono fun _ _ h => ⟨_, h.1, Nat.le_refl _, h.2.1, h.2.2⟩)
  have q3 : Hid (∀ w, SlS w a2 l2 v.names → Calls Tryz.prog 50 #[.slice a2 l2 c2] w fun e w' => ∃ b, e = .returned (.slice (some ⟨b, 0, none⟩) l2 l2) ∧ w.heap.size ≤ b ∧ StrRow w' b 0 v.names ∧ Below w.heap.size w w') :=
    hide (fun w hs => (toStringS_any a2 l2 c2 v.names w hl2 hs).mono fun _ _ h => ⟨_, h.1, Nat.le_refl _, h.2.1, h.2.2⟩)
  have HS1 := hide hs1
  have HS2 := hide hs2
  clear hs1 hs2 hl1 hl2
  go_enter Tryz.func78, Tryz.ntmps78
  go_wp2_with fail
  refine (toAtom_any _ _ _ _ _).mono ?_
  rintro e w1 ⟨rfl, hb1⟩
  have src := ((((ValAt.new w v (.slice a1 l1 c1) (.slice a2 l2 c2) 107).more _).more _).keep hb1)
  have bw := bTr (bAl (bAl (bAl (Below.refl _ _) _) _) _) hb1
  have ro := ((RowIs.new (w.alloc _) _ _).keep (bAl (Below.refl _ _) _)).keep hb1
  have out := (RowIs.new ((w.alloc _).alloc _) _ _).keep hb1
  simp only [World.size_alloc] at ro out
  clear hb1
  have f1 := out.froz 1
  have f2 := out.froz 2
  have f3 := out.froz 3
  have f4 := out.froz 4
  have k1 : w1.cell? ⟨w.heap.size + 1 + 1, 1, none⟩ = some (.int .i64 0) := out.at rfl
  have k2 : w1.cell? ⟨w.heap.size + 1 + 1, 2, none⟩ = some (.int .i64 0) := out.at rfl
  have k3 : w1.cell? ⟨w.heap.size + 1 + 1, 3, none⟩ = some (.string ⟨#[]⟩) := out.at rfl
  have k4 : w1.cell? ⟨w.heap.size + 1 + 1, 4, none⟩ = some (.string ⟨#[]⟩) := out.at rfl
  have d5 := src.c5
  have n1 : w.heap.size ≠ w.heap.size + 1 + 1 := by omega
  have n2 : w.heap.size + 1 ≠ w.heap.size + 1 + 1 := by omega
  obtain ⟨W1, hW1⟩ : ∃ W, W = (((w1.setCell ⟨w.heap.size + 1 + 1, 1, none⟩ (.int .i64 v.a.x)).setCell ⟨w.heap.size + 1 + 1, 2, none⟩ (.int .i64 v.a.n)).setCell ⟨w.heap.size + 1 + 1, 3, none⟩ (.string v.a.t)).setCell ⟨w.heap.size + 1 + 1, 4, none⟩ (.string v.a.y) := ⟨_, rfl⟩
  have HW1 := hide hW1
  replace out : RowIs W1 (w.heap.size + 1 + 1) #[.int .i64 v.k, .int .i64 v.a.x, .int .i64 v.a.n, .string v.a.t, .string v.a.y, .slice none 0 0, .slice none 0 0] 103 := by
    rw [hW1]; exact (((out.set 1 (.int .i64 v.a.x)).set 2 (.int .i64 v.a.n)).set 3 (.string v.a.t)).set 4 (.string v.a.y)
  replace src : ValAt W1 w.heap.size v (.slice a1 l1 c1) (.slice a2 l2 c2) := by rw [hW1]; exact (((src.setOther _ n1).setOther _ n1).setOther _ n1).setOther _ n1
  replace ro : RowIs W1 (w.heap.size + 1) #[.int .i64 0, .int .i64 0, .int .i64 0, .string ⟨#[]⟩, .string ⟨#[]⟩, .slice none 0 0, .slice none 0 0] 103 := by rw [hW1]; exact (((ro.setOther _ n2).setOther _ n2).setOther _ n2).setOther _ n2
  replace bw : Below w.heap.size w W1 := by rw [hW1]; exact (((bw.setCell (by simp; omega) _).setCell (by simp; omega) _).setCell (by simp; omega) _).setCell (by simp; omega) _
  clear hW1
  go_wp2_with fail
  rw [← unhide HW1]
  clear f1 f2 f3 f4 k1 k2 k3 k4 d5 HW1
  refine (unhide q2 _ ((unhide HS1).keep bw)).mono ?_
  rintro e w2 ⟨b1, rfl, hb1, hrow1, hb⟩
  have nb1 : b1 ≠ w.heap.size + 1 + 1 := by have := out.lt; omega
  have mb1 : b1 ≠ w.heap.size + 1 := by have := out.lt; omega
  replace out := out.keep hb
  replace src := src.keep hb
  replace ro := ro.keep hb
  replace bw := bTr bw hb
  clear hb hb1
  have f5 := out.froz 5
  have k5 : w2.cell? ⟨w.heap.size + 1 + 1, 5, none⟩ = some (.slice none 0 0) := out.at rfl
  have d6 := src.c6
  obtain ⟨W2, hW2⟩ : ∃ W, W = w2.setCell ⟨w.heap.size + 1 + 1, 5, none⟩ (.slice (some ⟨b1, 0, none⟩) l1 l1) := ⟨_, rfl⟩
  have HW2 := hide hW2
  replace out : RowIs W2 (w.heap.size + 1 + 1) #[.int .i64 v.k, .int .i64 v.a.x, .int .i64 v.a.n, .string v.a.t, .string v.a.y, .slice (some ⟨b1, 0, none⟩) l1 l1, .slice none 0 0] 103 := by
    rw [hW2]; exact out.set 5 _
  replace ro : RowIs W2 (w.heap.size + 1) #[.int .i64 0, .int .i64 0, .int .i64 0, .string ⟨#[]⟩, .string ⟨#[]⟩, .slice none 0 0, .slice none 0 0] 103 := by rw [hW2]; exact ro.setOther _ n2
  replace hrow1 : AtomRow W2 b1 0 v.items := by rw [hW2]; exact hrow1.setOther _ nb1
  replace bw : Below w.heap.size w W2 := by rw [hW2]; exact bw.setCell (by simp; omega) _
  clear hW2 src
  go_wp2_with fail
  rw [← unhide HW2]
  clear f5 k5 d6 HW2
  refine (unhide q3 _ ((unhide HS2).keep bw)).mono ?_
  rintro e w3 ⟨b2, rfl, hb2, hrow2, hb⟩
  have nb2 : b2 ≠ w.heap.size + 1 + 1 := by have := out.lt; omega
  have mb2 : b2 ≠ w.heap.size + 1 := by have := out.lt; omega
  replace out := out.keep hb
  replace ro := ro.keep hb
  replace bw := bTr bw hb
  replace hrow1 := hrow1.keep hb
  clear hb hb2 q2 q3
  have f6 := out.froz 6
  have k0 : w3.cell? ⟨w.heap.size + 1 + 1, 0, none⟩ = some (.int .i64 v.k) := out.at rfl
  have k1 : w3.cell? ⟨w.heap.size + 1 + 1, 1, none⟩ = some (.int .i64 v.a.x) := out.at rfl
  have k2 : w3.cell? ⟨w.heap.size + 1 + 1, 2, none⟩ = some (.int .i64 v.a.n) := out.at rfl
  have k3 : w3.cell? ⟨w.heap.size + 1 + 1, 3, none⟩ = some (.string v.a.t) := out.at rfl
  have k4 : w3.cell? ⟨w.heap.size + 1 + 1, 4, none⟩ = some (.string v.a.y) := out.at rfl
  have k5 : w3.cell? ⟨w.heap.size + 1 + 1, 5, none⟩ = some (.slice (some ⟨b1, 0, none⟩) l1 l1) := out.at rfl
  have k6 : w3.cell? ⟨w.heap.size + 1 + 1, 6, none⟩ = some (.slice none 0 0) := out.at rfl
  have g0 := ro.froz 0
  have g1 := ro.froz 1
  have g2 := ro.froz 2
  have g3 := ro.froz 3
  have g4 := ro.froz 4
  have g5 := ro.froz 5
  have g6 := ro.froz 6
  have j0 : w3.cell? ⟨w.heap.size + 1, 0, none⟩ = some (.int .i64 0) := ro.at rfl
  have j1 : w3.cell? ⟨w.heap.size + 1, 1, none⟩ = some (.int .i64 0) := ro.at rfl
  have j2 : w3.cell? ⟨w.heap.size + 1, 2, none⟩ = some (.int .i64 0) := ro.at rfl
  have j3 : w3.cell? ⟨w.heap.size + 1, 3, none⟩ = some (.string ⟨#[]⟩) := ro.at rfl
  have j4 : w3.cell? ⟨w.heap.size + 1, 4, none⟩ = some (.string ⟨#[]⟩) := ro.at rfl
  have j5 : w3.cell? ⟨w.heap.size + 1, 5, none⟩ = some (.slice none 0 0) := ro.at rfl
  have j6 : w3.cell? ⟨w.heap.size + 1, 6, none⟩ = some (.slice none 0 0) := ro.at rfl
  clear out ro
  go_wp2_with fail
  refine bodyPost_ret (v := .agg #[.int .i64 v.k, .int .i64 v.a.x, .int .i64 v.a.n, .string v.a.t, .string v.a.y, .slice (some ⟨b1, 0, none⟩) l1 l1, .slice (some ⟨b2, 0, none⟩) l2 l2]) (by simp [results, Tryz.results78, go_sem, j0, j1, j2, j3, j4, j5, j6]) rfl ⟨b1, b2, rfl, ?_, ?_, ?_⟩
  · exact (((((((hrow1.setOther _ nb1).setOther _ mb1).setOther _ mb1).setOther _ mb1).setOther _ mb1).setOther _ mb1).setOther _ mb1).setOther _ mb1
  · exact (((((((hrow2.setOther _ nb2).setOther _ mb2).setOther _ mb2).setOther _ mb2).setOther _ mb2).setOther _ mb2).setOther _ mb2).setOther _ mb2
  · exact (((((((bw.setCell (by simp; omega) _).setCell (by simp) _).setCell (by simp) _).setCell (by simp) _).setCell (by simp) _).setCell (by simp) _).setCell (by simp) _).setCell (by simp) _
end Go.Proofs.YtpfekkhnjaopdaaGreat.V
