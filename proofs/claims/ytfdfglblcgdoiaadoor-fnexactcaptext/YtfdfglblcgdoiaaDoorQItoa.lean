/- strconv.Itoa, spec.l1Size, spec.l1Num. -/
import Derived.Test.YtfdfglblcgdoiaaDoorQAtm
import Derived.Test.YtfdfglblcgdoiaaDoorShelf
import Derived.Lib.SmallJoins
import Derived.Lib.SlBytesRow
import Derived.Lib.BufferRead
import Derived.Lib.ItoaLen
import Derived.Laws.AppendOwn
import Derived.Laws.MakeOwn
import Derived.OwnWalk
namespace Go.Proofs.YtfdfglblcgdoiaaDoor
open Go.RowKit

def Tab (w : World) : Prop := Lib.TabIs Tryd.prog w "internal/strconv.uint64pow10" .u64 Lib.pow10Tab
theorem gPow : Tryd.prog.globalNamed "internal/strconv.uint64pow10" = some 2 := by kernel_rfl
theorem Tab.keep {w w' : World} (h : Tab w) (hb : Below w.heap.size w w') : Tab w' := Go.Joins.tab_stays gPow h hb (Nat.le_refl _)
theorem grow_below (w : World) (os : Array Obj) : Below w.heap.size w (Go.Sort.grow w os) :=
  ⟨rfl, rfl, rfl, by show w.heap.size ≤ (w.heap ++ os).size; simp, fun k hk => by show (w.heap ++ os)[k]? = _; rw [Array.getElem?_append_left hk]⟩
theorem itoa_any (n : Int) (w : World) (h0 : -9223372036854775808 ≤ n) (h1 : n ≤ 9223372036854775807) (ht : Tab w) :
    Calls Tryd.prog 73 #[.int .i64 n] w fun e w' => e = .returned (.string ⟨(Lib.itoa n).toArray⟩) ∧ Below w.heap.size w w' :=
  (Tryd.strconv_Itoa n h0 h1 w ht).mono fun e w' ⟨he, k, os, hw⟩ => ⟨he, by rw [hw]; exact (below_drewN (Below.refl _ _) k).trans (show Below w.heap.size (w.drewN k) _ from grow_below (w.drewN k) os)⟩

def byteV (c : UInt8) : Value := .int .u8 (c.toNat : Int)
/-- Block b holds the cells C. -/
def RowIs (w : World) (b : Nat) (C : Array Value) (T : TypeId) : Prop := w.heap[b]? = some (.cells C T (0, 0))
theorem RowIs.cell {w : World} {b : Nat} {C : Array Value} {T : TypeId} (h : RowIs w b C T) (o : Nat) : w.cell? ⟨b, o, none⟩ = C[o]? := by
  unfold RowIs at h; simp [World.cell?, h]
theorem RowIs.new (w : World) (C : Array Value) (T : TypeId) : RowIs (w.alloc (.cells C T)) w.heap.size C T := by
  unfold RowIs; show (w.heap.push _)[w.heap.size]? = _; simp
theorem conv_own {w : World} {base : Nat} {v : Value} {l : List UInt8} (h : w.ownsRow base 5 1 v l.length (l.map byteV)) :
    (convert 23 9 v).run Tryd.prog w = .ok (.string ⟨l.toArray⟩) w := by
  rcases h.2 with ⟨rfl, e⟩ | ⟨g, cap, cur, rfl, _, hh, _, _, hsz, htk⟩
  · have : l = [] := List.length_eq_zero_iff.1 e
    subst this
    exact Go.Lib.run_convert_nil_bytes w 23 9 5 0 Tryd.underlying23 Tryd.underlying5 Tryd.underlying9
  · have := Go.Lib.run_convert_whole (P := Tryd.prog) w 23 5 9 Tryd.underlying23 Tryd.underlying5 Tryd.underlying9 g 0 ⟨l.toArray⟩ (fun i hi => by
      have hi' : i < l.length := hi
      have hr : RowIs w g cur 5 := hh
      have f0 : (l.map byteV)[i]? = some (.int .u8 (l[i].toNat : Int)) := by simp [byteV, hi']
      rw [← htk, List.getElem?_take] at f0
      rw [Nat.zero_add, hr.cell, ← Array.getElem?_toList]
      split at f0
      · exact f0
      · cases f0) cap
    exact this
theorem own_new (w : World) (c : UInt8) : (w.alloc (.cells #[.int .u8 (c.toNat : Int)] 5)).ownsRow w.heap.size 5 1 (.slice (some ⟨w.heap.size, 0, none⟩) 1 1) ([c] : List UInt8).length (([c] : List UInt8).map byteV) := by
  refine ⟨by simp, .inr ⟨w.heap.size, 1, #[.int .u8 (c.toNat : Int)], rfl, Nat.le_refl _, ?_, Nat.le_refl _, by decide, by simp, by simp [byteV]⟩⟩
  exact RowIs.new w #[.int .u8 (c.toNat : Int)] 5

/-- The digits of n, ahead of O. -/
def dgt (n : Nat) (O : List UInt8) : List UInt8 := if _h : n = 0 then O else dgt (n / 10) (UInt8.ofNat (48 + n % 10) :: O)
termination_by n
decreasing_by omega
theorem dgt_zero (O : List UInt8) : dgt 0 O = O := by rw [dgt]; simp
theorem dgt_step {n : Nat} (h : ¬ n = 0) (O : List UInt8) : dgt n O = dgt (n / 10) (UInt8.ofNat (48 + n % 10) :: O) := by
  conv => lhs; rw [dgt]
  rw [dif_neg h]
theorem dgt_is (n : Nat) : ∀ O, ¬ n = 0 → dgt n O = Lib.decDigits n ++ O := by
  induction n using Nat.strongRecOn with
  | _ n ih =>
    intro O h
    rw [dgt_step h]
    by_cases h10 : n < 10
    · rw [Lib.decDigits, dif_pos h10, show n / 10 = 0 by omega, dgt_zero, Nat.mod_eq_of_lt h10]; rfl
    · rw [ih (n / 10) (by omega) _ (by omega)]
      conv => rhs; rw [Lib.decDigits, dif_neg h10]
      simp
theorem app_one (c : UInt8) (O : List UInt8) : ((⟨#[c]⟩ : ByteArray) ++ ⟨O.toArray⟩ : ByteArray) = ⟨(c :: O).toArray⟩ := by
  apply ByteArray.ext
  apply Array.toList_inj.1
  simp [ByteArray.data_append]

set_option maxRecDepth 8000 in
set_option maxHeartbeats 1000000 in
theorem l1Size_any (n : Int) (w : World) (h0 : -9223372036854775808 ≤ n) (h1 : n ≤ 9223372036854775807) :
    Calls Tryd.prog 48 #[.int .i64 n] w fun e w' => e = .returned (.string ⟨(Lib.decDigits n.natAbs).toArray⟩) ∧ Below w.heap.size w w' := by
  by_cases hn : n = 0
  · subst hn
    go_enter Tryd.func48, Tryd.ntmps48
    go_wp2_with fail
    go_ret
    exact ⟨by rw [show Lib.decDigits (0 : Int).natAbs = [48] by rw [Lib.decDigits]; simp]; rfl, Below.refl _ _⟩
  obtain ⟨M, hM⟩ : ∃ M, Lib.decDigits n.natAbs = M := ⟨_, rfl⟩
  have HM := hide (show dgt n.natAbs [] = M by rw [dgt_is _ _ (by omega), List.append_nil, hM])
  rw [hM]
  clear hM
  have d0 : (n == 0) = false := by simpa using hn
  go_enter Tryd.func48, Tryd.ntmps48
  go_wp2_with fail
  go_loopw [0, 3] (fun q v w' => ∃ (k : Int) (O : List UInt8), q = .int .i64 k ∧ v = .string ⟨O.toArray⟩ ∧ -9223372036854775808 ≤ k ∧ k ≤ 9223372036854775807 ∧ 2 * O.length ≤ 9223372036854775820 ∧ (k ≠ 0 → 2 * O.length + k.natAbs ≤ 9223372036854775809) ∧ Hid (dgt k.natAbs O = M) ∧ Hid (Below w.heap.size w w')) (fun q _ _ => (intOf q).natAbs)
  case atStart => exact ⟨n, [], rfl, rfl, h0, h1, by simp, fun _ => by simp; omega, HM, hide (Below.refl _ _)⟩
  case round =>
    obtain ⟨k, O, rfl, rfl, hk0, hk1, hL, hL2, hm, hb⟩ := hrel
    by_cases hk : k = 0
    · subst hk
      have eM := hide (show O = M by rw [← unhide hm]; exact (dgt_zero O).symm)
      clear hL2
      go_wp2_with fail
      go_ret
      exact ⟨by rw [← unhide eM]; rfl, unhide hb⟩
    · have hL3 := hL2 hk
      obtain ⟨R, hR⟩ : ∃ R, k.tmod 10 = R := ⟨_, rfl⟩
      obtain ⟨Q, hQ⟩ : ∃ Q, k.tdiv 10 = Q := ⟨_, rfl⟩
      have eR : R.natAbs = k.natAbs % 10 := by rw [← hR, Int.natAbs_tmod]; rfl
      have eQ : Q.natAbs = k.natAbs / 10 := by rw [← hQ, Int.natAbs_tdiv]; rfl
      obtain ⟨c, hc⟩ : ∃ c, UInt8.ofNat (48 + k.natAbs % 10) = c := ⟨_, rfl⟩
      have st := hide (show dgt Q.natAbs (c :: O) = M by rw [← unhide hm, eQ, dgt_step (n := k.natAbs) (by omega), hc])
      have hcn : c.toNat = 48 + R.natAbs := by rw [← hc, UInt8.toNat_ofNat', eR]; omega
      have hQ0 : -9223372036854775808 ≤ Q := by omega
      have hQ1 : Q ≤ 9223372036854775807 := by omega
      have e4 : IntKind.i64.wrap Q = Q := by rw [IntKind.wrap_i64]; omega
      have cv : (convert 23 9 (.slice (some ⟨wr.heap.size, 0, none⟩) 1 1)).run Tryd.prog (wr.alloc (.cells #[.int .u8 (c.toNat : Int)] 5)) = .ok (.string ⟨#[c]⟩) (wr.alloc (.cells #[.int .u8 (c.toNat : Int)] 5)) := conv_own (own_new wr c)
      have ap := hide (app_one c O)
      have hOz : (⟨O.toArray⟩ : ByteArray).size = O.length := by show O.toArray.size = _; simp
      have stO : Hid (∀ X : ByteArray, X = ⟨(c :: O).toArray⟩ → Value.string X = .string ⟨(c :: O).toArray⟩) := hide (fun X h => by rw [h])
      have R9 : R.natAbs ≤ 9 := by omega
      obtain ⟨OB, hOB⟩ : ∃ OB : ByteArray, OB = ⟨O.toArray⟩ := ⟨_, rfl⟩
      rw [← hOB] at hOz ap
      have q1 : ¬ 9223372036854775806 < OB.size := by omega
      have q2 : OB.size ≤ 9223372036854775806 := by omega
      have q3 : ¬ 9223372036854775807 < 1 + OB.size := by omega
      have q4 : 1 + OB.size ≤ 9223372036854775807 := by omega
      have HOB := hide hOB
      rw [← hOB]
      clear hOB hc eR hL2
      have B2 := hide (bAl (unhide hb) (.cells #[.int .u8 (c.toNat : Int)] 5))
      by_cases hneg : R < 0
      · have hcc : (48 : Int) + -R = (c.toNat : Int) := by omega
        have e5 : IntKind.i64.wrap (-R) = -R := by rw [IntKind.wrap_i64]; omega
        clear hcn
        go_wp2_with fail
        refine ⟨⟨Q, c :: O, rfl, ?_, hQ0, hQ1, by simp; omega, fun _ => by simp; omega, st, B2⟩, by simp [intOf]; omega⟩
        rw [unhide ap]
      · have hcc : (48 : Int) + R = (c.toNat : Int) := by omega
        clear hcn
        go_wp2_with fail
        refine ⟨⟨Q, c :: O, rfl, ?_, hQ0, hQ1, by simp; omega, fun _ => by simp; omega, st, B2⟩, by simp [intOf]; omega⟩
        rw [unhide ap]
end Go.Proofs.YtfdfglblcgdoiaaDoor
