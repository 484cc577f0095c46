/- laws.markText. -/
import Derived.Test.YtoikjamafglilaaGBase
import Derived.Laws.AppendOwn
import Derived.Lib.SlBytesRow
import Derived.Lib.BufferRead
import Derived.Lib.SmallJoins
import Derived.OwnWalk
namespace Go.Proofs.Ytoikjamafglilaa
open Go.RowKit

def byteV (c : UInt8) : Value := .int .u8 (c.toNat : Int)
theorem conv_own {w : World} {base : Nat} {v : Value} {l : List UInt8} (h : w.ownsRow base 5 1 v l.length (l.map byteV)) :
    (convert 65 9 v).run Try.prog w = .ok (.string ⟨l.toArray⟩) w := by
  rcases h.2 with ⟨rfl, e⟩ | ⟨g, cap, cur, rfl, _, hh, _, _, hsz, htk⟩
  · have : l = [] := List.length_eq_zero_iff.1 e
    subst this
    exact Go.Lib.run_convert_nil_bytes w 65 9 5 0 Try.underlying65 Try.underlying5 Try.underlying9
  · have := Go.Lib.run_convert_whole (P := Try.prog) w 65 5 9 Try.underlying65 Try.underlying5 Try.underlying9 g 0 ⟨l.toArray⟩ (fun i hi => by
      have hi' : i < l.length := hi
      have hr : RowIs w g cur 5 := hh
      have f0 : (l.map byteV)[i]? = some (.int .u8 (l[i].toNat : Int)) := by simp [byteV, hi']
      rw [← htk, List.getElem?_take] at f0
      rw [Nat.zero_add, hr.cell, ← Array.getElem?_toList]
      split at f0
      · exact f0
      · cases f0) cap
    exact this

/-- The digits of n, ahead of O. -/
def mtx (n : Nat) (O : ByteArray) : ByteArray := if _h : n = 0 then O else mtx (n / 10) ((⟨#[UInt8.ofNat (48 + n % 10)]⟩ : ByteArray) ++ O)
termination_by n
decreasing_by omega
theorem mtx_zero (O : ByteArray) : mtx 0 O = O := by rw [mtx]; simp
theorem mtx_step {n : Nat} (h : ¬ n = 0) (O : ByteArray) : mtx n O = mtx (n / 10) ((⟨#[UInt8.ofNat (48 + n % 10)]⟩ : ByteArray) ++ O) := by
  conv => lhs; rw [mtx]
  rw [dif_neg h]
def mt (n : Nat) : ByteArray := (⟨#[109]⟩ : ByteArray) ++ mtx n ⟨#[]⟩

theorem own_new (w : World) (c : UInt8) : (w.alloc (.cells #[.int .u8 (c.toNat : Int)] 5)).ownsRow w.heap.size 5 1 (.slice (some ⟨w.heap.size, 0, none⟩) 1 1) ([c] : List UInt8).length (([c] : List UInt8).map byteV) := by
  refine ⟨by simp, .inr ⟨w.heap.size, 1, #[.int .u8 (c.toNat : Int)], rfl, Nat.le_refl _, ?_, Nat.le_refl _, by decide, by simp, by simp [byteV]⟩⟩
  exact RowIs.new w #[.int .u8 (c.toNat : Int)] 5

set_option maxRecDepth 100000 in
set_option maxHeartbeats 1000000 in
theorem markText_any (K : Nat) (w : World) (h1 : 1 ≤ K) (h2 : K ≤ 400000000) :
    Calls Try.prog 26 #[.int .i64 K] w fun e w' => e = .returned (.string (mt K)) ∧ Below w.heap.size w w' := by
  have hk0 : ¬ (K : Int) ≤ 0 := by omega
  obtain ⟨M, hM⟩ : ∃ M, mtx K ⟨#[]⟩ = M := ⟨_, rfl⟩
  have HM := hide hM
  have hmt : mt K = (⟨#[109]⟩ : ByteArray) ++ M := by unfold mt; rw [hM]
  rw [hmt]
  clear hmt hM
  go_enter Try.func26, Try.ntmps26
  go_wp2_with fail
  go_loopw [0, 3] (fun q v w' => ∃ (n : Nat) (O : ByteArray), q = .int .i64 n ∧ v = .string O ∧ O.size + n ≤ 400000000 ∧ Hid (mtx n O = M) ∧ Hid (Below w.heap.size w w')) (fun q _ _ => (intOf q).toNat)
  case atStart => exact ⟨K, ⟨#[]⟩, rfl, rfl, by show 0 + K ≤ _; omega, HM, hide (Below.refl _ _)⟩
  case round =>
    obtain ⟨n, O, rfl, rfl, hz, hm, hb⟩ := hrel
    by_cases hn : n = 0
    · subst hn
      have eM := hide (show O = M by rw [← unhide hm, mtx_zero])
      have q1 : ¬ 9223372036854775806 < O.size := by omega
      have q2 : O.size ≤ 9223372036854775806 := by omega
      have q3 : ¬ 9223372036854775807 < 1 + O.size := by omega
      have q4 : 1 + O.size ≤ 9223372036854775807 := by omega
      go_wp2_with fail
      go_ret
      exact ⟨by rw [unhide eM]; rfl, unhide hb⟩
    · obtain ⟨c, hc⟩ : ∃ c, UInt8.ofNat (48 + n % 10) = c := ⟨_, rfl⟩
      have st := hide (show mtx (n / 10) ((⟨#[c]⟩ : ByteArray) ++ O) = M by rw [← unhide hm, mtx_step hn, hc])
      have hcc : (48 : Int) + (n : Int) % 10 = (c.toNat : Int) := by
        rw [← hc, UInt8.toNat_ofNat']
        omega
      have cv : (convert 65 9 (.slice (some ⟨wr.heap.size, 0, none⟩) 1 1)).run Try.prog (wr.alloc (.cells #[.int .u8 (c.toNat : Int)] 5)) = .ok (.string ⟨#[c]⟩) (wr.alloc (.cells #[.int .u8 (c.toNat : Int)] 5)) := conv_own (own_new wr c)
      have hp : (0 : Int) < (n : Int) := by omega
      have q1 : ¬ 9223372036854775806 < O.size := by omega
      have q2 : O.size ≤ 9223372036854775806 := by omega
      have q3 : ¬ 9223372036854775807 < 1 + O.size := by omega
      have q4 : 1 + O.size ≤ 9223372036854775807 := by omega
      have hlt : n / 10 < n := by omega
      have c256 := c.toNat_lt
      clear hc
      go_wp2_with fail
      refine ⟨⟨n / 10, (⟨#[c]⟩ : ByteArray) ++ O, ?_, rfl, ?_, st, hide (bAl (unhide hb) _)⟩, by simp [intOf]; omega⟩
      · rw [show (n : Int) / 10 = ((n / 10 : Nat) : Int) by omega]
      · rw [ByteArray.size_append]
        show 1 + O.size + n / 10 ≤ _
        omega

theorem gB {w w' : World} (row : Option Nat) (h : Below w.heap.size w w') : w.grownBy w' row := ⟨h.os, h.tape, h.output, h.size, fun k hk _ => h.block k hk⟩
theorem gSet (w : World) (g o : Nat) (v : Value) : w.grownBy (w.setCell ⟨g, o, none⟩ v) (some g) :=
  ⟨rfl, rfl, rfl, by simp [World.setCell], fun k _ hne => heap_setCell_other w ⟨g, o, none⟩ k v (by simpa using hne)⟩
theorem gBel {B : Nat} {w w' : World} {row : Option Nat} (h : w.grownBy w' row) (hB : B ≤ w.heap.size) (hr : ∀ k, row = some k → B ≤ k) : Below B w w' := (Below.refl B w).grown h hB hr
end Go.Proofs.Ytoikjamafglilaa
