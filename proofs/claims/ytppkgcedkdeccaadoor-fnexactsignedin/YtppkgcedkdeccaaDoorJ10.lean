/- QItoa, DLk, DDigK, one behind the other. -/
import Derived.Test.YtppkgcedkdeccaaDoorJ8
import Derived.Test.YtppkgcedkdeccaaDoorShelf
import Derived.Lib.SmallJoins
import Derived.Lib.SlBytesRow
import Derived.Lib.BufferRead
import Derived.Lib.ItoaLen
import Derived.Laws.AppendOwn
import Derived.Laws.MakeOwn
import Derived.OwnWalk
import Derived.Test.YtppkgcedkdeccaaDoorJ5
import Derived.Stop.LaidErr
import Derived.Test.YtppkgcedkdeccaaDoorJ4
import Derived.Deep.RegionWith
/- strconv.Itoa, spec.l1Size, spec.l1Num. -/
namespace Go.Proofs.YtppkgcedkdeccaaDoor
open Go.RowKit

def Tab (w : World) : Prop := Lib.TabIs Tryd.prog w "internal/strconv.uint64pow10" .u64 Lib.pow10Tab
theorem gPow : Tryd.prog.globalNamed "internal/strconv.uint64pow10" = some 1 := by kernel_rfl
theorem Tab.keep {w w' : World} (h : Tab w) (hb : Below w.heap.size w w') : Tab w' := Go.Joins.tab_stays gPow h hb (Nat.le_refl _)
theorem grow_below (w : World) (os : Array Obj) : Below w.heap.size w (Go.Sort.grow w os) :=
  ⟨rfl, rfl, rfl, by show w.heap.size ≤ (w.heap ++ os).size; simp, fun k hk => by show (w.heap ++ os)[k]? = _; rw [Array.getElem?_append_left hk]⟩
theorem itoa_any (n : Int) (w : World) (h0 : -9223372036854775808 ≤ n) (h1 : n ≤ 9223372036854775807) (ht : Tab w) :
    Calls Tryd.prog 82 #[.int .i64 n] w fun e w' => e = .returned (.string ⟨(Lib.itoa n).toArray⟩) ∧ Below w.heap.size w w' :=
  (Tryd.strconv_Itoa n h0 h1 w ht).mono fun e w' ⟨he, k, os, hw⟩ => ⟨he, by rw [hw]; exact (below_drewN (Below.refl _ _) k).trans (show Below w.heap.size (w.drewN k) _ from grow_below (w.drewN k) os)⟩

def byteV (c : UInt8) : Value := .int .u8 (c.toNat : Int)
theorem conv_own {w : World} {base : Nat} {v : Value} {l : List UInt8} (h : w.ownsRow base 5 1 v l.length (l.map byteV)) :
    (convert 22 9 v).run Tryd.prog w = .ok (.string ⟨l.toArray⟩) w := by
  rcases h.2 with ⟨rfl, e⟩ | ⟨g, cap, cur, rfl, _, hh, _, _, hsz, htk⟩
  · have : l = [] := List.length_eq_zero_iff.1 e
    subst this
    exact Go.Lib.run_convert_nil_bytes w 22 9 5 0 Tryd.underlying22 Tryd.underlying5 Tryd.underlying9
  · have := Go.Lib.run_convert_whole (P := Tryd.prog) w 22 5 9 Tryd.underlying22 Tryd.underlying5 Tryd.underlying9 g 0 ⟨l.toArray⟩ (fun i hi => by
      have hi' : i < l.length := hi
      have hr : RowIs w g cur 5 := hh
      have f0 : (l.map byteV)[i]? = some (.int .u8 (l[i].toNat : Int)) := by simp [byteV, hi']
      rw [← htk, List.getElem?_take] at f0
      rw [Nat.zero_add, hr.cell, ← Array.getElem?_toList]
      split at f0
      · exact f0
      · cases f0) cap
    exact this
theorem own_new (w : World) (c : UInt8) : (w.alloc (.cells #[.int .u8 (c.toNat : Int)] 5)).ownsRow w.heap.size 5 1 (.slice (some ⟨w.heap.size, 0, none⟩) 1 1) ([c] : List UInt8).length (([c] : List UInt8).map byteV) := by
  refine ⟨by simp, .inr ⟨w.heap.size, 1, #[.int .u8 (c.toNat : Int)], rfl, Nat.le_refl _, ?_, Nat.le_refl _, by decide, by simp, by simp [byteV]⟩⟩
  exact RowIs.new w #[.int .u8 (c.toNat : Int)] 5

/-- The digits of n, ahead of O. -/
def dgt (n : Nat) (O : List UInt8) : List UInt8 := if _h : n = 0 then O else dgt (n / 10) (UInt8.ofNat (48 + n % 10) :: O)
termination_by n
decreasing_by omega
theorem dgt_zero (O : List UInt8) : dgt 0 O = O := by rw [dgt]; simp
theorem dgt_step {n : Nat} (h : ¬ n = 0) (O : List UInt8) : dgt n O = dgt (n / 10) (UInt8.ofNat (48 + n % 10) :: O) := by
  conv => lhs; rw [dgt]
  rw [dif_neg h]
theorem dgt_is (n : Nat) : ∀ O, ¬ n = 0 → dgt n O = Lib.decDigits n ++ O := by
  induction n using Nat.strongRecOn with
  | _ n ih =>
    intro O h
    rw [dgt_step h]
    by_cases h10 : n < 10
    · rw [Lib.decDigits, dif_pos h10, show n / 10 = 0 by omega, dgt_zero, Nat.mod_eq_of_lt h10]; rfl
    · rw [ih (n / 10) (by omega) _ (by omega)]
      conv => rhs; rw [Lib.decDigits, dif_neg h10]
      simp
theorem app_one (c : UInt8) (O : List UInt8) : ((⟨#[c]⟩ : ByteArray) ++ ⟨O.toArray⟩ : ByteArray) = ⟨(c :: O).toArray⟩ := by
  apply ByteArray.ext
  apply Array.toList_inj.1
  simp [ByteArray.data_append]

set_option maxRecDepth 8000 in
set_option maxHeartbeats 1000000 in
theorem l1Size_any (n : Int) (w : World) (h0 : -9223372036854775808 ≤ n) (h1 : n ≤ 9223372036854775807) :
    Calls Tryd.prog 77 #[.int .i64 n] w fun e w' => e = .returned (.string ⟨(Lib.decDigits n.natAbs).toArray⟩) ∧ Below w.heap.size w w' := by
  by_cases hn : n = 0
  · subst hn
    go_enter Tryd.func77, Tryd.ntmps77
    go_wp2_with fail
    go_ret
    exact ⟨by rw [show Lib.decDigits (0 : Int).natAbs = [48] by rw [Lib.decDigits]; simp]; rfl, Below.refl _ _⟩
  obtain ⟨M, hM⟩ : ∃ M, Lib.decDigits n.natAbs = M := ⟨_, rfl⟩
  have HM := hide (show dgt n.natAbs [] = M by rw [dgt_is _ _ (by omega), List.append_nil, hM])
  rw [hM]
  clear hM
  have d0 : (n == 0) = false := by simpa using hn
  go_enter Tryd.func77, Tryd.ntmps77
  go_wp2_with fail
  go_loopw [0, 3] (fun q v w' => ∃ (k : Int) (O : List UInt8), q = .int .i64 k ∧ v = .string ⟨O.toArray⟩ ∧ -9223372036854775808 ≤ k ∧ k ≤ 9223372036854775807 ∧ 2 * O.length ≤ 9223372036854775820 ∧ (k ≠ 0 → 2 * O.length + k.natAbs ≤ 9223372036854775809) ∧ Hid (dgt k.natAbs O = M) ∧ Hid (Below w.heap.size w w')) (fun q _ _ => (intOf q).natAbs)
  case atStart => exact ⟨n, [], rfl, rfl, h0, h1, by simp, fun _ => by simp; omega, HM, hide (Below.refl _ _)⟩
  case round =>
    obtain ⟨k, O, rfl, rfl, hk0, hk1, hL, hL2, hm, hb⟩ := hrel
    by_cases hk : k = 0
    · subst hk
      have eM := hide (show O = M by rw [← unhide hm]; exact (dgt_zero O).symm)
      clear hL2
      go_wp2_with fail
      go_ret
      exact ⟨by rw [← unhide eM]; rfl, unhide hb⟩
    · have hL3 := hL2 hk
      obtain ⟨R, hR⟩ : ∃ R, k.tmod 10 = R := ⟨_, rfl⟩
      obtain ⟨Q, hQ⟩ : ∃ Q, k.tdiv 10 = Q := ⟨_, rfl⟩
      have eR : R.natAbs = k.natAbs % 10 := by rw [← hR, Int.natAbs_tmod]; rfl
      have eQ : Q.natAbs = k.natAbs / 10 := by rw [← hQ, Int.natAbs_tdiv]; rfl
      obtain ⟨c, hc⟩ : ∃ c, UInt8.ofNat (48 + k.natAbs % 10) = c := ⟨_, rfl⟩
      have st := hide (show dgt Q.natAbs (c :: O) = M by rw [← unhide hm, eQ, dgt_step (n := k.natAbs) (by omega), hc])
      have hcn : c.toNat = 48 + R.natAbs := by rw [← hc, UInt8.toNat_ofNat', eR]; omega
      have hQ0 : -9223372036854775808 ≤ Q := by omega
      have hQ1 : Q ≤ 9223372036854775807 := by omega
      have e4 : IntKind.i64.wrap Q = Q := by rw [IntKind.wrap_i64]; omega
      have cv : (convert 22 9 (.slice (some ⟨wr.heap.size, 0, none⟩) 1 1)).run Tryd.prog (wr.alloc (.cells #[.int .u8 (c.toNat : Int)] 5)) = .ok (.string ⟨#[c]⟩) (wr.alloc (.cells #[.int .u8 (c.toNat : Int)] 5)) := conv_own (own_new wr c)
      have ap := hide (app_one c O)
      have hOz : (⟨O.toArray⟩ : ByteArray).size = O.length := by show O.toArray.size = _; simp
      have stO : Hid (∀ X : ByteArray, X = ⟨(c :: O).toArray⟩ → Value.string X = .string ⟨(c :: O).toArray⟩) := hide (fun X h => by rw [h])
      have R9 : R.natAbs ≤ 9 := by omega
      obtain ⟨OB, hOB⟩ : ∃ OB : ByteArray, OB = ⟨O.toArray⟩ := ⟨_, rfl⟩
      rw [← hOB] at hOz ap
      have q1 : ¬ 9223372036854775806 < OB.size := by omega
      have q2 : OB.size ≤ 9223372036854775806 := by omega
      have q3 : ¬ 9223372036854775807 < 1 + OB.size := by omega
      have q4 : 1 + OB.size ≤ 9223372036854775807 := by omega
      have HOB := hide hOB
      rw [← hOB]
      clear hOB hc eR hL2
      have B2 := hide (bAl (unhide hb) (.cells #[.int .u8 (c.toNat : Int)] 5))
      by_cases hneg : R < 0
      · have hcc : (48 : Int) + -R = (c.toNat : Int) := by omega
        have e5 : IntKind.i64.wrap (-R) = -R := by rw [IntKind.wrap_i64]; omega
        clear hcn
        go_wp2_with fail
        refine ⟨⟨Q, c :: O, rfl, ?_, hQ0, hQ1, by simp; omega, fun _ => by simp; omega, st, B2⟩, by simp [intOf]; omega⟩
        rw [unhide ap]
      · have hcc : (48 : Int) + R = (c.toNat : Int) := by omega
        clear hcn
        go_wp2_with fail
        refine ⟨⟨Q, c :: O, rfl, ?_, hQ0, hQ1, by simp; omega, fun _ => by simp; omega, st, B2⟩, by simp [intOf]; omega⟩
        rw [unhide ap]
end Go.Proofs.YtppkgcedkdeccaaDoor
/- What the laws of this seat need of the laid tables. -/
namespace Go.Proofs.YtppkgcedkdeccaaDoor.D
open Go.ChangeShapes Go.WideShapes Go.ChangeAt Go.RowKit

def laid4 {H : Type} : List (String × DataW H) := [("math/bits.deBruijn32tab", Rows.laid_math_bits_deBruijn32tab), ("math/bits.deBruijn64tab", Rows.laid_math_bits_deBruijn64tab), ("internal/strconv.uint64pow10", Rows.laid_internal_strconv_uint64pow10), ("loop.example/g00036/impl.multipliers", Rows.laid_loop_example_g00036_impl_multipliers)]
theorem door_met4 (os : Os) (args : Array Value) : laidMetH Tryd.prog laid4 ((World.doorLaid Tryd.prog 400 os).forCall (fun _ _ => 0) ⟨#[], args, []⟩).memory :=
  laidMetH_of_parts3 (fuel := 8) (laidMet_of_run' 8 (by kernel_rfl) (by kernel_rfl)) (by kernel_rfl) (by kernel_rfl)
theorem pow_is : (Rows.laid_internal_strconv_uint64pow10 : DataW Unit) = Lib.tabData .u64 Lib.pow10Tab := by rfl
theorem tPow : (Tryd.prog.globals[1]?).map (·.type) = some 146 := by kernel_rfl
theorem cells_of_met {W : World} (h : laidMet Tryd.prog [("loop.example/g00036/impl.multipliers", Rows.laid_loop_example_g00036_impl_multipliers)] W) : W.var? Tryd.prog "loop.example/g00036/impl.multipliers" = some cellsM :=
  cells_of_laid (by rw [MakeChecks.laidMetH_plain _ _ _ (by kernel_rfl)]; exact h)
theorem tab_of_laid4 {W : World} (h : laidMetH Tryd.prog laid4 W) : Tab W := by
  rw [MakeChecks.laidMetH_plain _ _ _ (by kernel_rfl)] at h
  have h2 := h.tail.tail
  rw [pow_is] at h2
  exact Lib.tabIs_of_head gPow tPow Tryd.underlying146 Tryd.underlying51 (by kernel_rfl) (by kernel_rfl) h2
theorem cells_of_laid4 {W : World} (h : laidMetH Tryd.prog laid4 W) : W.var? Tryd.prog "loop.example/g00036/impl.multipliers" = some cellsM := by
  rw [MakeChecks.laidMetH_plain _ _ _ (by kernel_rfl)] at h
  exact cells_of_met h.tail.tail.tail
end Go.Proofs.YtppkgcedkdeccaaDoor.D
/- impl.bytes, Digest. -/
namespace Go.Proofs.YtppkgcedkdeccaaDoor.D
set_option maxRecDepth 20000
open Go.RowKit

set_option maxHeartbeats 1000000 in
theorem bytes_any (s : Nat) (D : List Nat) (w : World) (hF : Four D) (hr : RowIs w s (intsOf D) 131) :
    Calls Tryd.prog 96 #[.pointer (some ⟨s, 0, none⟩)] w fun e w' => ∃ v T, Hid (T = tell D) ∧ e = .returned v ∧ w'.ownsRow w.heap.size 5 1 v T.length (T.map byteV) ∧ Below w.heap.size w w' := by
  obtain ⟨i0, hi, hz0, hz1, hz2⟩ := info_parts info_u8
  have hFD := hide hF
  have HR := hide hr
  have hD4 : D.length = 4 := hF.1
  clear hF hr
  go_enter Tryd.func96, Tryd.ntmps96
  go_wp2_with fail
  go_loopw [3, 5, 7] (fun v _ i w' => ∃ (k : Nat) (T : List UInt8), k ≤ 4 ∧ i = .int .i64 k ∧ T.length = 4 * k ∧ Hid (T = tell (D.take k)) ∧ Hid (w'.ownsRow w.heap.size 5 1 v T.length (T.map byteV)) ∧ Hid (Below w.heap.size w w')) (fun _ _ i _ => 4 - (intOf i).toNat)
  case atStart => exact ⟨0, [], by omega, rfl, rfl, hide rfl, hide (World.ownsRow_nil _ _ _ _), hide (Below.refl _ _)⟩
  case round =>
    obtain ⟨k4, T, hk4, rfl, hTl, hT, ho7, hb7⟩ := hrel
    by_cases hlt4 : k4 < 4
    · have hkl : k4 < D.length := by omega
      have c0 := ((unhide HR).keep (unhide hb7)).at (intsOf_get _ k4 hkl)
      have hst := hide (tell_take D k4 hkl)
      rw [← unhide hT] at hst
      have hN := (unhide hFD).2 k4
      generalize D.getD k4 0 = N at c0 hst hN
      unfold natV at c0
      go_wp2_with fail
      refine (asBytes_any N _).mono ?_
      rintro e w8 ⟨rfl, hr8, hb8⟩
      obtain ⟨Ns, hNs⟩ : ∃ Ns, bytes4 N = Ns := ⟨_, rfl⟩
      have hN4 : Ns.length = 4 := by rw [← hNs]; rfl
      rw [hNs] at hr8 hst
      have R8 := hide hr8
      have O8 := hide (own_keep (unhide ho7) hb8)
      have B8 := hide (bTr (unhide hb7) hb8)
      have z8 := hr8.lt
      have z7 := (unhide B8).size
      clear hr8 hb8 hNs
      go_wp2_with (at_builtin; refine wpList_append_own _ rfl _ _ 22 rfl w.heap.size 5 i0 (.int .u8 0) 1 1 Tryd.underlying22 hi hz0 hz1 hz2 rfl (by decide) _ _ _ rfl (unhide O8) ⟨_, 0, none⟩ _ _ (Ns.map byteV) rfl (by simp; omega) (row_news (unhide R8)) one_cell (by unfold maxLen; omega) (by omega) (by omega) ?_; intro v' w9 hown9 hgrow9 _)
      have G9 := (Below.refl w.heap.size w8).grown hgrow9 (by omega) (fun j hj => ((unhide O8).lt j hj).1)
      exact ⟨⟨k4 + 1, T ++ Ns, by omega, by go_num, by rw [List.length_append]; omega, hide (unhide hst).symm, hide (by rw [List.length_append, List.map_append, hN4]; exact hown9), hide ((unhide B8).trans G9)⟩, by simp [intOf]; omega⟩
    · have e : T = tell D := by have := unhide hT; rwa [List.take_of_length_le (by omega)] at this
      have E := hide e
      clear e
      go_wp2_with fail
      go_ret
      exact ⟨_, T, E, rfl, unhide ho7, unhide hb7⟩

/-- The digest of at most 20000 bytes; of more none. -/
def digD (l : List UInt8) : List UInt8 := if l.length ≤ 20000 then dig l else []

/-- A digest on its way. -/
structure DigSt (w W : World) (s : Nat) (F : List Value) (A : List Nat) : Prop where
  f : Four A
  r : RowIs W s (intsOf A) 131
  x : RowIs W (s + 1) F.toArray 134
  rd : Rounds W w.heap.size s F 4
  m : Mults W
  b : Below w.heap.size w W
  z : w.heap.size ≤ s
  h0 : 0 < w.heap.size
theorem DigSt.dr {w W : World} {s : Nat} {F : List Value} {A : List Nat} (h : DigSt w W s F A) : DigSt w W.drew s F A :=
  ⟨h.f, h.r, h.x, h.rd, h.m, h.b.drew, h.z, h.h0⟩
theorem DigSt.keep {w W W' : World} {s : Nat} {F : List Value} {A : List Nat} (h : DigSt w W s F A) (hb : Below W.heap.size W W') : DigSt w W' s F A :=
  ⟨h.f, h.r.keep hb, h.x.keep hb, h.rd.keepB (hb.mono (Nat.le_of_lt h.r.lt)), h.m.keepB hb h.m.1, bTr h.b hb, h.z, h.h0⟩
theorem DigSt.take {w W W' : World} {s : Nat} {F : List Value} {A A' : List Nat} (h : DigSt w W s F A) (hb : But s W W') (hr : RowIs W' s (intsOf A') 131) (hf : Four A') : DigSt w W' s F A' :=
  ⟨hf, hr, hb.row h.x (by omega), ⟨h.rd.1, fun j hj => by
    obtain ⟨p, q, e, lp, lq, hp, hq, h1, h2⟩ := h.rd.2 j hj
    have := h.r.lt
    exact ⟨p, q, e, lp, lq, hp, hq, hb.cell (p := ⟨p, 0, none⟩) (by show p < _; omega) (by show p ≠ _; omega) h1, hb.cell (p := ⟨q, 0, none⟩) (by show q < _; omega) (by show q ≠ _; omega) h2⟩⟩,
    h.m.but hb (by have := h.z; have := h.h0; omega), h.b.trans (hb.below h.z h.b.size), h.z, h.h0⟩
theorem DigSt.cells {w W : World} {s : Nat} {f0 f1 f2 f3 : Value} {A : List Nat} (h : DigSt w W s [f0, f1, f2, f3] A) : W.cell? ⟨s + 1, 0, none⟩ = some f0 ∧ W.cell? ⟨s + 1, 1, none⟩ = some f1 ∧ W.cell? ⟨s + 1, 2, none⟩ = some f2 ∧ W.cell? ⟨s + 1, 3, none⟩ = some f3 := ⟨h.x.at rfl, h.x.at rfl, h.x.at rfl, h.x.at rfl⟩
/-- One take. -/
theorem DigSt.takes {w W : World} {s : Nat} {F : List Value} {A : List Nat} (h : DigSt w W s F A) (ad : Option Addr) (len cap : Nat) (l : List UInt8) (hl : len ≤ 1048576) (hs : SlB W W.heap.size ad len l) (hne : ∀ b off, ad = some ⟨b, off, none⟩ → l ≠ [] → b ≠ s) :
    Calls Tryd.prog 94 #[.pointer (some ⟨s, 0, none⟩), .slice ad len cap, .agg F.toArray] W fun e w' => e = .returned (.tuple #[]) ∧ DigSt w w' s F (takes A l) ∧ Below s W w' := by
  refine (take_any s ad len cap l A F w.heap.size W hl hs hne h.f h.r h.m h.rd (by have := h.z; have := h.h0; omega)).mono ?_
  rintro e w' ⟨rfl, hr, hb⟩
  exact ⟨rfl, h.take hb hr (h.f.takes l), hb.below (Nat.le_refl _) (Nat.le_of_lt h.r.lt)⟩

theorem DigSt.takesRow {w W : World} {s : Nat} {F : List Value} {A : List Nat} (h : DigSt w W s F A) {g : Nat} (len cap : Nat) (l : List UInt8) (hr : RowIs W g (cellsOf l) 5) (hg : s < g) (hl : l.length = len) (hl2 : len ≤ 1048576) :
    Calls Tryd.prog 94 #[.pointer (some ⟨s, 0, none⟩), .slice (some ⟨g, 0, none⟩) len cap, .agg F.toArray] W fun e w' => e = .returned (.tuple #[]) ∧ DigSt w w' s F (Go.Proofs.YtppkgcedkdeccaaDoor.D.takes A l) ∧ Below s W w' := by
  subst hl
  refine h.takes _ _ cap l hl2 (slB_row hr hr.lt) (fun b off e _ => ?_)
  simp only [Option.some.injEq, Addr.mk.injEq] at e
  omega
def zero8 : List UInt8 := [0, 0, 0, 0, 0, 0, 0, 0]
theorem make8 (w : World) : (Instr.makeSlice 22 (.int .i64 8) (.int .i64 8)).run Tryd.prog w = .ok (.slice (some ⟨w.heap.size, 0, none⟩) 8 8) (w.alloc (.cells (cellsOf zero8) 5)) := by kernel_rfl

set_option maxHeartbeats 2000000 in
theorem iDigest_any (ad : Option Addr) (len cap : Nat) (l : List UInt8) (w : World) (hl : len ≤ maxLen) (hs : SlB w w.heap.size ad len l) (hM : Mults w) :
    Calls Tryd.prog 90 #[.slice ad len cap] w fun e w' => ∃ v D, Hid (D = digD l) ∧ e = .returned v ∧ w'.ownsRow w.heap.size 5 1 v D.length (D.map byteV) ∧ Below w.heap.size w w' := by
  unfold maxLen at hl
  have HS := hide hs
  have hll := hide hs.1
  have HM := hide hM
  have h00 := hM.1
  clear hs hM
  by_cases h : 20000 < len
  · have hd := hide (show ([] : List UInt8) = digD l by unfold digD; rw [if_neg (by rw [← unhide hll]; omega)])
    go_enter Tryd.func90, Tryd.ntmps90
    go_wp2_with fail
    go_ret
    exact ⟨_, [], hd, rfl, World.ownsRow_nil _ _ _ _, Below.refl _ _⟩
  have hl2 : len ≤ 20000 := by omega
  clear hl
  have hsf := fun (a : Addr) (c : Array Value) (w : World) => run_store Tryd.prog w a (.func (.func 102) #[] c) .plain rfl
  go_enter Tryd.func90, Tryd.ntmps90
  go_wp2_with fail
  refine (rounds_any _).mono ?_
  rintro e w1 ⟨F, rfl, hF, hb1⟩
  obtain ⟨f0, f1, f2, f3, rfl⟩ : ∃ f0 f1 f2 f3, F = [f0, f1, f2, f3] := by
    match F, hF.1 with
    | [a, b, c, d], _ => exact ⟨a, b, c, d, rfl⟩
  obtain ⟨p0, q0, e0, _⟩ := id (hF.2 0 (by omega))
  obtain ⟨p1, q1, e1, _⟩ := id (hF.2 1 (by omega))
  obtain ⟨p2, q2, e2, _⟩ := id (hF.2 2 (by omega))
  obtain ⟨p3, q3, e3, _⟩ := id (hF.2 3 (by omega))
  simp only [List.getD_cons_zero, List.getD_cons_succ] at e0 e1 e2 e3
  subst e0 e1 e2 e3
  have HF := hide hF
  have B1 := hide hb1
  have z1 := hb1.size
  clear hF hb1
  obtain ⟨I, hI⟩ : ∃ I : List Nat, I = [11, 22, 33, 44] := ⟨_, rfl⟩
  have FI := hide (show Four I by rw [hI]; exact four0)
  have hI2 := hide (show intsOf I = #[.int .i64 11, .int .i64 22, .int .i64 33, .int .i64 44] by rw [hI]; rfl)
  have HI := hide hI
  clear hI
  have ST := hide (show DigSt w ((w1.alloc (.cells #[.int .i64 11, .int .i64 22, .int .i64 33, .int .i64 44] 131)).alloc (.cells #[.func (.func 102) #[] #[.pointer (some ⟨p0, 0, none⟩), .pointer (some ⟨q0, 0, none⟩)], .func (.func 102) #[] #[.pointer (some ⟨p1, 0, none⟩), .pointer (some ⟨q1, 0, none⟩)], .func (.func 102) #[] #[.pointer (some ⟨p2, 0, none⟩), .pointer (some ⟨q2, 0, none⟩)], .func (.func 102) #[] #[.pointer (some ⟨p3, 0, none⟩), .pointer (some ⟨q3, 0, none⟩)]] 134)) w1.heap.size [.func (.func 102) #[] #[.pointer (some ⟨p0, 0, none⟩), .pointer (some ⟨q0, 0, none⟩)], .func (.func 102) #[] #[.pointer (some ⟨p1, 0, none⟩), .pointer (some ⟨q1, 0, none⟩)], .func (.func 102) #[] #[.pointer (some ⟨p2, 0, none⟩), .pointer (some ⟨q2, 0, none⟩)], .func (.func 102) #[] #[.pointer (some ⟨p3, 0, none⟩), .pointer (some ⟨q3, 0, none⟩)]] I from
    ⟨unhide FI, by rw [unhide hI2]; exact (RowIs.new w1 _ _).keep (bAl (Below.refl _ _) _), by
      have := RowIs.new (w1.alloc (.cells #[.int .i64 11, .int .i64 22, .int .i64 33, .int .i64 44] 131)) #[.func (.func 102) #[] #[.pointer (some ⟨p0, 0, none⟩), .pointer (some ⟨q0, 0, none⟩)], .func (.func 102) #[] #[.pointer (some ⟨p1, 0, none⟩), .pointer (some ⟨q1, 0, none⟩)], .func (.func 102) #[] #[.pointer (some ⟨p2, 0, none⟩), .pointer (some ⟨q2, 0, none⟩)], .func (.func 102) #[] #[.pointer (some ⟨p3, 0, none⟩), .pointer (some ⟨q3, 0, none⟩)]] 134
      simpa using this, (unhide HF).keepB (bAl (bAl (Below.refl _ _) _) _), (unhide HM).keepB (bAl (bAl (unhide B1) _) _) h00, bAl (bAl (unhide B1) _) _, z1, h00⟩)
  have SL := hide (((unhide HS).keep (bAl (bAl (unhide B1) (.cells #[.int .i64 11, .int .i64 22, .int .i64 33, .int .i64 44] 131)) (.cells #[.func (.func 102) #[] #[.pointer (some ⟨p0, 0, none⟩), .pointer (some ⟨q0, 0, none⟩)], .func (.func 102) #[] #[.pointer (some ⟨p1, 0, none⟩), .pointer (some ⟨q1, 0, none⟩)], .func (.func 102) #[] #[.pointer (some ⟨p2, 0, none⟩), .pointer (some ⟨q2, 0, none⟩)], .func (.func 102) #[] #[.pointer (some ⟨p3, 0, none⟩), .pointer (some ⟨q3, 0, none⟩)]] 134))))
  have NE := hide (show ∀ b off, ad = some ⟨b, off, none⟩ → l ≠ [] → b ≠ w1.heap.size by
    intro b off e hp
    obtain ⟨b', off', e', hz', _⟩ := (unhide HS).at (show 0 < len by rw [unhide hll]; exact List.length_pos_iff.2 hp)
    rw [e] at e'
    simp only [Option.some.injEq, Addr.mk.injEq] at e'
    omega)
  go_wp2_with fail
  refine ((unhide ST).takes ad len cap l (by omega) ((unhide SL).mono (unhide ST).b.size) (unhide NE)).mono ?_
  rintro e w2 ⟨rfl, hst2, _⟩
  have S2 := hide hst2
  have C2 := hst2.cells
  clear hst2 ST SL NE HF
  obtain ⟨s, hs⟩ : ∃ s, w1.heap.size = s := ⟨_, rfl⟩
  rw [hs] at S2 C2
  obtain ⟨x0, x1, x2, x3⟩ := C2
  obtain ⟨A2, hA2⟩ : ∃ A2, takes I l = A2 := ⟨_, rfl⟩
  rw [hA2] at S2
  have HA2 := hide hA2
  clear hA2
  rw [hs]
  go_wp2_with fail
  have zs := (unhide S2).r.lt
  go_region_with (first | (go_at_call 95; refine (asBytes_any len _).mono ?_; rintro e w3 ⟨rfl, hr3, hb3⟩; have S3 := hide (DigSt.keep (unhide S2).dr hb3); have R3 := hide hr3; obtain ⟨y0, y1, y2, y3⟩ := (unhide S3).cells; clear hr3 hb3) | (go_at_call 94; refine (DigSt.takesRow (unhide S3) 4 4 (bytes4 len) (unhide R3) zs rfl (by omega)).mono ?_; rintro e w4 ⟨rfl, hst4, _⟩; have S4 := hide hst4; clear hst4))
  all_goals
    obtain ⟨A4, hA4⟩ : ∃ A4, takes A2 (bytes4 len) = A4 := ⟨_, rfl⟩
    rw [hA4] at S4
    have HA4 := hide hA4
    clear hA4 S3 R3 S2 x0 x1 x2 x3
    obtain ⟨u0, u1, u2, u3⟩ := (unhide S4).cells
    have S5 := hide ((unhide S4).keep (bAl (Below.refl _ _) (.cells (cellsOf zero8) 5)))
    have R5 := hide (RowIs.new w4 (cellsOf zero8) 5)
    obtain ⟨v0, v1, v2, v3⟩ := (unhide S5).cells
    have zs4 := (unhide S4).r.lt
    have hmk := make8
    go_wp2_with fail
  all_goals
    go_region_with ((go_at_call 94; refine (DigSt.takesRow (unhide S5).dr 8 8 zero8 (unhide R5) zs4 rfl (by omega)).mono ?_; rintro e w6 ⟨rfl, hst6, _⟩; have S6 := hide hst6; clear hst6))
  all_goals
    have E6 := hide (show tell (takes A4 zero8) = digD l by
      unfold digD
      rw [if_pos (by rw [← unhide hll]; exact hl2)]
      unfold dig digN
      rw [← unhide HA4, ← unhide HA2, unhide HI, unhide hll]; rfl)
    obtain ⟨A6, hA6⟩ : ∃ A6, takes A4 zero8 = A6 := ⟨_, rfl⟩
    rw [hA6] at S6 E6
    clear hA6
    go_wp2_with fail
    refine (bytes_any s A6 _ (unhide S6).f (unhide S6).r).mono ?_
    rintro e w7 ⟨v7, T, hT, rfl, ho7, hb7⟩
    go_wp2_with fail
    go_ret
    exact ⟨_, T, hide (by rw [unhide hT, unhide E6]), rfl, ⟨ho7.1, ho7.2.imp_right fun ⟨g, cp, cur, h1, h2, h3⟩ => ⟨g, cp, cur, h1, Nat.le_trans (unhide S6).b.size h2, h3⟩⟩, bTr (unhide S6).b hb7⟩
end Go.Proofs.YtppkgcedkdeccaaDoor.D
