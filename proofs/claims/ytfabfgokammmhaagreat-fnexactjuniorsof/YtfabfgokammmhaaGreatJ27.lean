/- BMkT, BMkX, one behind the other. -/
import Derived.Test.YtfabfgokammmhaaGreatJ8
import Derived.Laws.AppendOwn
import Derived.Lib.SlBytesRow
import Derived.Lib.BufferRead
import Derived.Lib.SmallJoins
import Derived.OwnWalk
/- laws.markText. -/
/- laws.markText. -/
namespace Go.Proofs.YtfabfgokammmhaaGreat.V
open Go.RowKit

def byteV (c : UInt8) : Value := .int .u8 (c.toNat : Int)
theorem conv_own {w : World} {base : Nat} {v : Value} {l : List UInt8} (h : w.ownsRow base 5 1 v l.length (l.map byteV)) :
    (convert 92 9 v).run Tryz.prog w = .ok (.string ⟨l.toArray⟩) w := by
  rcases h.2 with ⟨rfl, e⟩ | ⟨g, cap, cur, rfl, _, hh, _, _, hsz, htk⟩
  · have : l = [] := List.length_eq_zero_iff.1 e
    subst this
    exact Go.Lib.run_convert_nil_bytes w 92 9 5 0 Tryz.underlying92 Tryz.underlying5 Tryz.underlying9
  · have := Go.Lib.run_convert_whole (P := Tryz.prog) w 92 5 9 Tryz.underlying92 Tryz.underlying5 Tryz.underlying9 g 0 ⟨l.toArray⟩ (fun i hi => by
      have hi' : i < l.length := hi
      have hr : RowIs w g cur 5 := hh
      have f0 : (l.map byteV)[i]? = some (.int .u8 (l[i].toNat : Int)) := by simp [byteV, hi']
      rw [← htk, List.getElem?_take] at f0
      rw [Nat.zero_add, hr.cell, ← Array.getElem?_toList]
      split at f0
      · exact f0
      · cases f0) cap
    exact this

/-- The digits of n, ahead of O. -/
def mtx (n : Nat) (O : ByteArray) : ByteArray := if _h : n = 0 then O else mtx (n / 10) ((⟨#[UInt8.ofNat (48 + n % 10)]⟩ : ByteArray) ++ O)
termination_by n
decreasing_by omega
theorem mtx_zero (O : ByteArray) : mtx 0 O = O := by rw [mtx]; simp
theorem mtx_step {n : Nat} (h : ¬ n = 0) (O : ByteArray) : mtx n O = mtx (n / 10) ((⟨#[UInt8.ofNat (48 + n % 10)]⟩ : ByteArray) ++ O) := by
  conv => lhs; rw [mtx]
  rw [dif_neg h]
def mt (n : Nat) : ByteArray := (⟨#[109]⟩ : ByteArray) ++ mtx n ⟨#[]⟩

theorem own_new (w : World) (c : UInt8) : (w.alloc (.cells #[.int .u8 (c.toNat : Int)] 5)).ownsRow w.heap.size 5 1 (.slice (some ⟨w.heap.size, 0, none⟩) 1 1) ([c] : List UInt8).length (([c] : List UInt8).map byteV) := by
  refine ⟨by simp, .inr ⟨w.heap.size, 1, #[.int .u8 (c.toNat : Int)], rfl, Nat.le_refl _, ?_, Nat.le_refl _, by decide, by simp, by simp [byteV]⟩⟩
  exact RowIs.new w #[.int .u8 (c.toNat : Int)] 5

set_option maxRecDepth 100000 in
set_option maxHeartbeats 1000000 in
theorem markText_any (K : Nat) (w : World) (h1 : 1 ≤ K) (h2 : K ≤ 9000000000000000000) :
    Calls Tryz.prog 28 #[.int .i64 K] w fun e w' => e = .returned (.string (mt K)) ∧ Below w.heap.size w w' := by
  have hk0 : ¬ (K : Int) ≤ 0 := by omega
  obtain ⟨M, hM⟩ : ∃ M, mtx K ⟨#[]⟩ = M := ⟨_, rfl⟩
  have HM := hide hM
  have hmt : mt K = (⟨#[109]⟩ : ByteArray) ++ M := by unfold mt; rw [hM]
  rw [hmt]
  clear hmt hM
  go_enter Tryz.func28, Tryz.ntmps28
  go_wp2_with fail
  go_loopw [0, 3] (fun q v w' => ∃ (n : Nat) (O : ByteArray), q = .int .i64 n ∧ v = .string O ∧ O.size + n ≤ 9000000000000000000 ∧ Hid (mtx n O = M) ∧ Hid (Below w.heap.size w w')) (fun q _ _ => (intOf q).toNat)
  case atStart => exact ⟨K, ⟨#[]⟩, rfl, rfl, by show 0 + K ≤ _; omega, HM, hide (Below.refl _ _)⟩
  case round =>
    obtain ⟨n, O, rfl, rfl, hz, hm, hb⟩ := hrel
    by_cases hn : n = 0
    · subst hn
      have eM := hide (show O = M by rw [← unhide hm, mtx_zero])
      have q1 : ¬ 9223372036854775806 < O.size := by omega
      have q2 : O.size ≤ 9223372036854775806 := by omega
      have q3 : ¬ 9223372036854775807 < 1 + O.size := by omega
      have q4 : 1 + O.size ≤ 9223372036854775807 := by omega
      go_wp2_with fail
      go_ret
      exact ⟨by rw [unhide eM]; rfl, unhide hb⟩
    · obtain ⟨c, hc⟩ : ∃ c, UInt8.ofNat (48 + n % 10) = c := ⟨_, rfl⟩
      have st := hide (show mtx (n / 10) ((⟨#[c]⟩ : ByteArray) ++ O) = M by rw [← unhide hm, mtx_step hn, hc])
      have hcc : (48 : Int) + (n : Int) % 10 = (c.toNat : Int) := by
        rw [← hc, UInt8.toNat_ofNat']
        omega
      have cv : (convert 92 9 (.slice (some ⟨wr.heap.size, 0, none⟩) 1 1)).run Tryz.prog (wr.alloc (.cells #[.int .u8 (c.toNat : Int)] 5)) = .ok (.string ⟨#[c]⟩) (wr.alloc (.cells #[.int .u8 (c.toNat : Int)] 5)) := conv_own (own_new wr c)
      have hp : (0 : Int) < (n : Int) := by omega
      have q1 : ¬ 9223372036854775806 < O.size := by omega
      have q2 : O.size ≤ 9223372036854775806 := by omega
      have q3 : ¬ 9223372036854775807 < 1 + O.size := by omega
      have q4 : 1 + O.size ≤ 9223372036854775807 := by omega
      have hlt : n / 10 < n := by omega
      have c256 := c.toNat_lt
      clear hc
      go_wp2_with fail
      refine ⟨⟨n / 10, (⟨#[c]⟩ : ByteArray) ++ O, ?_, rfl, ?_, st, hide (bAl (unhide hb) _)⟩, by simp [intOf]; omega⟩
      · rw [show (n : Int) / 10 = ((n / 10 : Nat) : Int) by omega]
      · rw [ByteArray.size_append]
        show 1 + O.size + n / 10 ≤ _
        omega

theorem gB {w w' : World} (row : Option Nat) (h : Below w.heap.size w w') : w.grownBy w' row := ⟨h.os, h.tape, h.output, h.size, fun k hk _ => h.block k hk⟩
theorem gSet (w : World) (g o : Nat) (v : Value) : w.grownBy (w.setCell ⟨g, o, none⟩ v) (some g) :=
  ⟨rfl, rfl, rfl, by simp [World.setCell], fun k _ hne => heap_setCell_other w ⟨g, o, none⟩ k v (by simpa using hne)⟩
theorem gBel {B : Nat} {w w' : World} {row : Option Nat} (h : w.grownBy w' row) (hB : B ≤ w.heap.size) (hr : ∀ k, row = some k → B ≤ k) : Below B w w' := (Below.refl B w).grown h hB hr
end Go.Proofs.YtfabfgokammmhaaGreat.V
/- laws.markStringS, laws.heldStringS: a row of 1 cells an element. -/
namespace Go.Proofs.YtfabfgokammmhaaGreat.V
open Go.RowKit

def MCStr (C : Array Value) (o j : Nat) : Prop := C[o]? = some (.string (mt (j + 0)))
def MarkedStr (C : Array Value) (s n : Nat) : Prop := ∀ i, i < n → MCStr C (i) (s + i)
def MarksStr (w : World) (v : Value) (s n : Nat) : Prop := (v = .slice none 0 0 ∧ n = 0) ∨ ∃ g cap C, v = .slice (some ⟨g, 0, none⟩) n cap ∧ RowIs w g C 9 ∧ MarkedStr C s n
theorem MarksStr.keep {w w' : World} {v : Value} {s n : Nat} (h : MarksStr w v s n) (hb : Below w.heap.size w w') : MarksStr w' v s n :=
  h.imp_right fun ⟨g, cap, C, e, r, m⟩ => ⟨g, cap, C, e, r.keep hb, m⟩
theorem MarkedStr.set {C : Array Value} {s k j : Nat} (h : MarkedStr C s k) (hs : k + 0 < C.size) (hj : j = s + k) {V0 : Value} (e0 : V0 = .string (mt (j + 0))) : MarkedStr (C.setIfInBounds (k) (V0)) s (k + 1) := by
  intro i hi
  unfold MCStr
  by_cases e : i = k
  · subst e
    subst hj
    subst e0
    have s0 : i < C.size := by omega
    simp [s0]
  · have := h i (by omega)
    unfold MCStr at this
    simp only [Array.getElem?_setIfInBounds]
    repeat rw [if_neg (by omega)]
    exact this

set_option maxRecDepth 100000 in
set_option maxHeartbeats 4000000 in
theorem markStr_row (g n cap s : Nat) (C0 : Array Value) (w : World) (hn : n ≤ 1048576) (hs1 : 1 ≤ s) (hs9 : s ≤ 100000000) (hC : n ≤ C0.size) (hr : RowIs w g C0 9) :
    Calls Tryz.prog 11 #[.slice (some ⟨g, 0, none⟩) n cap, .int .i64 s] w fun e w' => e = .returned (.int .i64 ((s + n : Nat) : Int)) ∧ (∃ C, RowIs w' g C 9 ∧ MarkedStr C s n) ∧ w.grownBy w' (some g) := by
  have HR := hide hr
  clear hr
  go_enter Tryz.func11, Tryz.ntmps11
  go_wp2_with fail
  go_loopw [1, 5] (fun q i w' => ∃ (k j : Nat) (C : Array Value), k ≤ n ∧ i = .int .i64 k ∧ q = .int .i64 j ∧ 1 ≤ j ∧ j ≤ 200000000 ∧ Hid (j = s + k) ∧ Hid (RowIs w' g C 9) ∧ Hid (n ≤ C.size) ∧ Hid (MarkedStr C s k) ∧ Hid (w.grownBy w' (some g))) (fun _ i _ => n - (intOf i).toNat)
  case atStart => exact ⟨0, s, C0, Nat.zero_le _, rfl, rfl, hs1, by omega, hide (by omega), HR, hide hC, hide (fun i h => absurd h (Nat.not_lt_zero _)), hide (World.grownBy.refl _ _)⟩
  case round =>
    obtain ⟨k, j, C, hk, rfl, rfl, hj1, hj2, hj, hR, hCs, hM, hb⟩ := hrel
    by_cases hlt : k < n
    · have i0 : (0 : Int) ≤ (k : Int) := by omega
      have i1 : (k : Int) < (n : Int) := by omega
      have ej : j ≤ 109437184 := by have := unhide hj; omega
      have s9 : k + 0 < C.size := by have := unhide hCs; omega
      obtain ⟨X0, hX0⟩ : ∃ X, X = mt (j + 0) := ⟨_, rfl⟩
      have q0 : Hid (∀ w, Calls Tryz.prog 28 #[.int .i64 ((j : Int))] w fun e w' => e = .returned (.string X0) ∧ Below w.heap.size w w') := hide (fun w => by have := markText_any (j + 0) w (by omega) (by omega); rw [hX0]; rwa [show ((j + 0 : Nat) : Int) = (j : Int) by omega] at this)
      have stM := hide ((unhide hM).set (j := j) (V0 := .string X0) s9 (unhide hj) (by rw [hX0]))
      clear hX0
      have R0 := hR
      have B0 := hb
      clear hR hb hM
      go_wp2_with fail
      refine (unhide q0 _).mono ?_
      rintro e w1 ⟨rfl, hb0⟩
      have B0a := hide ((unhide B0).trans (gB (some g) hb0))
      have R0a := hide ((unhide R0).keep hb0)
      clear hb0 q0 R0 B0
      have f0 := (unhide R0a).froz (k)
      have g0 := (unhide R0a).cell (k)
      obtain ⟨D0, d0⟩ : ∃ D, (C)[k]? = some D := ⟨_, Array.getElem?_eq_getElem (by first | omega | (simp; omega))⟩
      rw [d0] at g0
      clear d0
      have R1 := hide ((unhide R0a).set (k) (.string X0))
      have B1 := hide ((unhide B0a).trans (gSet _ g (k) (.string X0)))
      clear R0a B0a
      go_wp2_with fail
      exact ⟨⟨k + 1, j + 1, _, by omega, by go_num, by go_num, by omega, by omega, hide (by have := unhide hj; omega), R1, hide (by simp; exact unhide hCs), stM, B1⟩, by simp [intOf]; omega⟩
    · have e : k = n := by omega
      have ej := hide (show j = s + n by rw [← e]; exact unhide hj)
      go_wp2_with fail
      go_ret
      exact ⟨by rw [unhide ej]; rfl, ⟨C, unhide hR, by rw [← e]; exact unhide hM⟩, unhide hb⟩

set_option maxRecDepth 100000 in
set_option maxHeartbeats 4000000 in
theorem heldStr_row (g n cap s : Nat) (C : Array Value) (w : World) (hn : n ≤ 1048576) (hs1 : 1 ≤ s) (hs9 : s ≤ 100000000) (hr : RowIs w g C 9) (hM : MarkedStr C s n) :
    Calls Tryz.prog 12 #[.slice (some ⟨g, 0, none⟩) n cap, .int .i64 s] w fun e w' => e = .returned (.int .i64 ((s + n : Nat) : Int)) ∧ Below w.heap.size w w' := by
  have HR := hide hr
  have HM := hide hM
  clear hr hM
  go_enter Tryz.func12, Tryz.ntmps12
  go_wp2_with fail
  go_loopw [1, 5] (fun q i w' => ∃ (k j : Nat), k ≤ n ∧ i = .int .i64 k ∧ q = .int .i64 j ∧ 1 ≤ j ∧ j ≤ 200000000 ∧ Hid (j = s + k) ∧ Hid (Below w.heap.size w w')) (fun _ i _ => n - (intOf i).toNat)
  case atStart => exact ⟨0, s, Nat.zero_le _, rfl, rfl, hs1, by omega, hide (by omega), hide (Below.refl _ _)⟩
  case round =>
    obtain ⟨k, j, hk, rfl, rfl, hj1, hj2, hj, hb⟩ := hrel
    by_cases hlt : k < n
    · have mk := unhide HM k hlt
      rw [← unhide hj] at mk
      unfold MCStr at mk
      have m0 := mk
      have i0 : (0 : Int) ≤ (k : Int) := by omega
      have i1 : (k : Int) < (n : Int) := by omega
      have ej : j ≤ 109437184 := by have := unhide hj; omega
      have R0 := (unhide HR).keep (unhide hb)
      have zr := R0.lt
      have c0 := R0.at m0
      clear R0 m0
      obtain ⟨X0, hX0⟩ : ∃ X, X = mt (j + 0) := ⟨_, rfl⟩
      have q0 : Hid (∀ w, Calls Tryz.prog 28 #[.int .i64 ((j : Int))] w fun e w' => e = .returned (.string X0) ∧ Below w.heap.size w w') := hide (fun w => by have := markText_any (j + 0) w (by omega) (by omega); rw [hX0]; rwa [show ((j + 0 : Nat) : Int) = (j : Int) by omega] at this)
      rw [← hX0] at c0
      clear hX0
      have B0 := hb
      clear hb
      have ne : Nonempty (Kept wr) := ⟨⟨wr, Below.refl _ _⟩⟩
      have e0 := kept_cell zr c0
      go_wp2_with fail
      refine wp_region_kept (by kernel_rfl) (by kernel_rfl) ?_
      repeat (first
        | go_big_quiet_step ((go_at_call 28; exact kept_call (unhide q0 _)))
        | quiet_step ((go_at_call 28; exact kept_call (unhide q0 _))))
      refine wpQuiet_nil ?_
      rintro _ ⟨q, rfl⟩
      clear ne e0 q0
      obtain ⟨w1, hb0⟩ := q
      clear c0
      replace zr := Nat.lt_of_lt_of_le zr hb0.size
      have B1 := hide (bTr (unhide B0) hb0)
      clear B0
      go_wp2_with fail
      exact ⟨⟨k + 1, j + 1, by omega, by go_num, by go_num, by omega, by omega, hide (by have := unhide hj; omega), B1⟩, by simp [intOf]; omega⟩
    · have e : k = n := by omega
      have ej := hide (show j = s + n by rw [← e]; exact unhide hj)
      go_wp2_with fail
      go_ret
      exact ⟨by rw [unhide ej]; rfl, unhide hb⟩

theorem markStr_own (v : Value) (n s : Nat) (xs : List Value) (base : Nat) (w : World) (hn : n ≤ 1048576) (hs1 : 1 ≤ s) (hs9 : s ≤ 100000000) (h : w.ownsRow base 9 1 v n xs) :
    Calls Tryz.prog 11 #[v, .int .i64 s] w fun e w' => e = .returned (.int .i64 ((s + n : Nat) : Int)) ∧ MarksStr w' v s n ∧ w.grownBy w' v.ownBlock := by
  rcases h.2 with ⟨rfl, e0⟩ | ⟨g, cap, cur, rfl, _, hh, hc, _, hsz, _⟩
  · go_enter Tryz.func11, Tryz.ntmps11
    go_wp2_with fail
    go_loopw [1, 5] (fun q i w' => i = .int .i64 0 ∧ q = .int .i64 s ∧ w = w') (fun _ _ _ => 0)
    case atStart => exact ⟨rfl, rfl, rfl⟩
    case round =>
      obtain ⟨rfl, rfl, rfl⟩ := hrel
      go_wp2_with fail
      go_ret
      exact ⟨by rw [e0]; simp, .inl ⟨rfl, e0⟩, World.grownBy.refl _ _⟩
  · have hr : RowIs w g cur 9 := hh
    refine (markStr_row g n cap s cur w hn hs1 hs9 (by rw [hsz]; omega) hr).mono ?_
    rintro e w' ⟨rfl, ⟨C, hr', hM⟩, hb⟩
    exact ⟨rfl, .inr ⟨g, cap, C, rfl, hr', hM⟩, hb⟩
theorem heldStr_own (v : Value) (n s : Nat) (w : World) (hn : n ≤ 1048576) (hs1 : 1 ≤ s) (hs9 : s ≤ 100000000) (h : MarksStr w v s n) :
    Calls Tryz.prog 12 #[v, .int .i64 s] w fun e w' => e = .returned (.int .i64 ((s + n : Nat) : Int)) ∧ Below w.heap.size w w' := by
  rcases h with ⟨rfl, rfl⟩ | ⟨g, cap, C, rfl, hr, hM⟩
  · go_enter Tryz.func12, Tryz.ntmps12
    go_wp2_with fail
    go_loop [1, 5] (fun q i => i = .int .i64 0 ∧ q = .int .i64 s) (fun _ _ => 0)
    case atStart => exact ⟨rfl, rfl⟩
    case round =>
      obtain ⟨rfl, rfl⟩ := hrel
      go_wp2_with fail
      go_ret
      exact ⟨by simp, Below.refl _ _⟩
  · exact heldStr_row g n cap s C w hn hs1 hs9 hr hM
end Go.Proofs.YtfabfgokammmhaaGreat.V
