/- The cursor of the drawers: next, pick, one (ported). -/
import Derived.Test.YtjmpakpodhbbpaaKWi
import Derived.Deep.QuietTactic
import Derived.BigRegion
import Derived.Laws.Bits64b
namespace Go.Proofs.Ytjmpakpodhbbpaa.C
open Go.RowKit

theorem _root_.Go.Proofs.Ytjmpakpodhbbpaa.RowIs.drN {w : World} {b : Nat} {C : Array Value} {T : TypeId} (h : RowIs w b C T) (n : Nat) : RowIs (w.drewN n) b C T := h
/-- All that was there but block b is as it was. -/
structure But (b : Nat) (w w' : World) : Prop where
  os : w'.os = w.os
  tape : w'.tape = w.tape
  output : w'.output = w.output
  size : w.heap.size ≤ w'.heap.size
  block : ∀ k, k < w.heap.size → k ≠ b → w'.heap[k]? = w.heap[k]?
theorem But.refl (b : Nat) (w : World) : But b w w := ⟨rfl, rfl, rfl, Nat.le_refl _, fun _ _ _ => rfl⟩
theorem But.trans {b : Nat} {x y z : World} (h : But b x y) (k : But b y z) : But b x z :=
  ⟨k.os.trans h.os, k.tape.trans h.tape, k.output.trans h.output, Nat.le_trans h.size k.size, fun i hi hn => (k.block i (Nat.lt_of_lt_of_le hi h.size) hn).trans (h.block i hi hn)⟩
theorem But.of {b : Nat} {w w' : World} (h : Below w.heap.size w w') : But b w w' := ⟨h.os, h.tape, h.output, h.size, fun k hk _ => h.block k hk⟩
theorem But.below {b B : Nat} {w w' : World} (h : But b w w') (hb : B ≤ b) (hw : B ≤ w.heap.size) : Below B w w' := ⟨h.os, h.tape, h.output, h.size, fun k hk => h.block k (by omega) (by omega)⟩
theorem But.set {b o : Nat} {w w' : World} (h : But b w w') (v : Value) : But b w (w'.setCell ⟨b, o, none⟩ v) :=
  h.trans ⟨rfl, rfl, rfl, by simp [World.setCell], fun k _ hn => heap_setCell_other w' ⟨b, o, none⟩ k v hn⟩
theorem But.dr {b : Nat} {w w' : World} (h : But b w w') (n : Nat) : But b w (w'.drewN n) := h.trans ⟨rfl, rfl, rfl, Nat.le_refl _, fun _ _ _ => rfl⟩
theorem But.al {b : Nat} {w w' : World} (h : But b w w') (o : Obj) : But b w (w'.alloc o) := h.trans (But.of (bAl (Below.refl _ _) o))
theorem But.cell {b : Nat} {w w' : World} (h : But b w w') {p : Addr} {v : Value} (hp : p.block < w.heap.size) (hn : p.block ≠ b) (hc : w.cell? p = some v) : w'.cell? p = some v := by
  rw [World.cell?_of_block (h.block p.block hp hn)]; exact hc
theorem But.row {b : Nat} {w w' : World} (h : But b w w') {k : Nat} {C : Array Value} {T : TypeId} (hr : RowIs w k C T) (hn : k ≠ b) : RowIs w' k C T := by
  have hl := hr.lt
  unfold RowIs at *; rw [h.block k hl hn]; exact hr



/-- It returns a bool. -/
def RetB' (e : Ending) : Prop := ∃ b : Bool, e = .returned (.bool b)
/-- The bytes of the code that a cursor reads. -/
def CodeAt (w : World) (b : Nat) (a : Option Addr) (len : Nat) : Prop :=
  len ≤ maxLen ∧ (len = 0 ∨ ∃ blk off, a = some ⟨blk, off, none⟩ ∧ blk < w.heap.size ∧ blk < b ∧ ∀ i, i < len → ∃ z : Int, 0 ≤ z ∧ z ≤ 255 ∧ w.cell? ⟨blk, off + i, none⟩ = some (.int .u8 z))
theorem CodeAt.keep {w w' : World} {b : Nat} {a : Option Addr} {len : Nat} (h : CodeAt w b a len) (hb : But b w w') : CodeAt w' b a len := by
  refine ⟨h.1, ?_⟩
  rcases h.2 with e | ⟨blk, off, e, z, n, r⟩
  · exact .inl e
  · refine .inr ⟨blk, off, e, Nat.lt_of_lt_of_le z hb.size, n, fun i hi => ?_⟩
    obtain ⟨x, h1, h2, h3⟩ := r i hi
    exact ⟨x, h1, h2, hb.cell (p := ⟨blk, off + i, none⟩) z (Nat.ne_of_lt n) h3⟩
/-- A cursor in block b that has been asked at most m times. -/
def CurOk (w : World) (b m : Nat) : Prop :=
  ∃ (a : Option Addr) (len cap k : Nat) (seed : Int), RowIs w b #[.slice a len cap, .int .i64 k, .int .u64 seed] 36 ∧ k ≤ m ∧ CodeAt w b a len
theorem CurOk.mono {w : World} {b m m' : Nat} (h : CurOk w b m) (hm : m ≤ m') : CurOk w b m' := by
  obtain ⟨a, len, cap, k, seed, h1, h2, h3⟩ := h
  exact ⟨a, len, cap, k, seed, h1, by omega, h3⟩
/-- What does not touch the cursor keeps it. -/
theorem CurOk.keep {w w' : World} {b m : Nat} (h : CurOk w b m) (hb : Below w.heap.size w w') : CurOk w' b m := by
  obtain ⟨a, len, cap, k, seed, h1, h2, h3⟩ := h
  exact ⟨a, len, cap, k, seed, h1.keep hb, h2, h3.keep (But.of hb)⟩
theorem CurOk.lt {w : World} {b m : Nat} (h : CurOk w b m) : b < w.heap.size := by
  obtain ⟨a, len, cap, k, seed, h1, h2, h3⟩ := h
  exact h1.lt

/-- A store above the cursor. -/
theorem CurOk.setAbove {w : World} {b m : Nat} (h : CurOk w b m) {z o : Nat} (u : Value) (hz : b < z) : CurOk (w.setCell ⟨z, o, none⟩ u) b m := by
  obtain ⟨a, len, cap, k, seed, h1, h2, h3⟩ := h
  refine ⟨a, len, cap, k, seed, h1.setOther u (Nat.ne_of_lt hz), h2, h3.1, ?_⟩
  rcases h3.2 with e | ⟨blk, off, e, q, n, r⟩
  · exact .inl e
  · refine .inr ⟨blk, off, e, by simpa [World.setCell] using q, n, fun i hi => ?_⟩
    obtain ⟨x, h1, h2, h3⟩ := r i hi
    refine ⟨x, h1, h2, ?_⟩
    rw [World.cell?_of_block (heap_setCell_other w ⟨z, o, none⟩ blk u (by show blk ≠ z; omega))]
    exact h3

theorem cur_step {w : World} {b m len cap k : Nat} {a : Option Addr} {seed : Int} (hr : RowIs w b #[.slice a len cap, .int .i64 k, .int .u64 seed] 36) (hc : CodeAt w b a len) (hk : k ≤ m) (n n2 : Nat) (s2 : Int) :
    CurOk ((((w.drewN n).setCell ⟨b, 1, none⟩ (.int .i64 ((k : Int) + 1))).setCell ⟨b, 2, none⟩ (.int .u64 s2)).drewN n2) b (m + 1) ∧ But b w ((((w.drewN n).setCell ⟨b, 1, none⟩ (.int .i64 ((k : Int) + 1))).setCell ⟨b, 2, none⟩ (.int .u64 s2)).drewN n2) := by
  have hb : But b w ((((w.drewN n).setCell ⟨b, 1, none⟩ (.int .i64 ((k : Int) + 1))).setCell ⟨b, 2, none⟩ (.int .u64 s2)).drewN n2) := ((((But.refl b w).dr n).set _).set _).dr n2
  refine ⟨⟨a, len, cap, k + 1, s2, ?_, by omega, hc.keep hb⟩, hb⟩
  exact (((hr.drN n).set 1 (.int .i64 ((k : Int) + 1))).set 2 (.int .u64 s2)).drN n2

theorem seed_byte (x : Int) : 0 ≤ wrap64 (bits .and .u64 (IntKind.u64.wrap x / 1099511627776) 255) ∧ wrap64 (bits .and .u64 (IntKind.u64.wrap x / 1099511627776) 255) ≤ 255 := by
  rw [IntKind.wrap_u64]
  have h0 : 0 ≤ x % 18446744073709551616 / 1099511627776 := by omega
  have h1 : x % 18446744073709551616 / 1099511627776 < 18446744073709551616 := by omega
  generalize x % 18446744073709551616 / 1099511627776 = y at h0 h1
  obtain ⟨n, rfl⟩ := Int.eq_ofNat_of_zero_le h0
  have e := bits_and_u64_nat n 255 (by omega) (by omega)
  have hl : n &&& 255 ≤ 255 := Nat.and_le_right
  have e2 : bits .and .u64 (n : Int) 255 = ((n &&& 255 : Nat) : Int) := e
  rw [e2]
  generalize n &&& 255 = k at hl
  simp only [wrap64]
  omega

set_option maxHeartbeats 2000000 in
theorem next_any (b m : Nat) (w : World) (hm : m ≤ 1000000) (hc : CurOk w b m) :
    Calls Try.prog 19 #[.pointer (some ⟨b, 0, none⟩)] w fun e w' => (∃ r : Int, 0 ≤ r ∧ r ≤ 255 ∧ e = .returned (.int .i64 r)) ∧ CurOk w' b (m + 1) ∧ But b w w' := by
  obtain ⟨a, len, cap, k, seed, hr, hk, hcode⟩ := hc
  have k0 : w.cell? ⟨b, 0, none⟩ = some (.slice a len cap) := hr.at rfl
  have k1 : w.cell? ⟨b, 1, none⟩ = some (.int .i64 k) := hr.at rfl
  have k2 : w.cell? ⟨b, 2, none⟩ = some (.int .u64 seed) := hr.at rfl
  have f1 := hr.froz 1
  have f2 := hr.froz 2
  have hlen := hcode.1
  unfold maxLen at hlen
  have HC := hide hcode
  have HR := hide hr
  clear hr hcode
  by_cases hlt : k < len
  · obtain ⟨blk, off, rfl, zb, nb, hz⟩ : ∃ blk off, a = some ⟨blk, off, none⟩ ∧ blk < w.heap.size ∧ blk < b ∧ ∀ i, i < len → ∃ z : Int, 0 ≤ z ∧ z ≤ 255 ∧ w.cell? ⟨blk, off + i, none⟩ = some (.int .u8 z) := by
      rcases (unhide HC).2 with e | e
      · omega
      · exact e
    obtain ⟨z, z0, z1, cz⟩ := hz k hlt
    clear hz
    have dl : decide ((k : Int) < (len : Int)) = true := by simp; omega
    have i0 : (0 : Int) ≤ (k : Int) := by omega
    have i1 : (k : Int) < (len : Int) := by omega
    have wz : IntKind.i64.wrap z = z := by rw [IntKind.wrap_i64]; omega
    have dl2 : decide ((k : Int) + 1 ≤ (len : Int)) = true := by simp; omega
    go_enter Try.func19, Try.ntmps19
    go_wp2_with fail
    go_quiet (fail)
    go_wp2_with fail
    go_quiet (fail)
    go_wp2_with fail
    go_quiet (fail)
    go_wp2_with fail
    go_ret
    exact ⟨⟨z, z0, z1, rfl⟩, cur_step (unhide HR) (unhide HC) hk _ _ _⟩
  · have dl : decide ((k : Int) < (len : Int)) = false := by simp; omega
    have dl2 : decide ((k : Int) + 1 ≤ (len : Int)) = false := by simp; omega
    go_enter Try.func19, Try.ntmps19
    go_wp2_with fail
    go_quiet (fail)
    go_wp2_with fail
    go_quiet (fail)
    go_wp2_with fail
    go_ret
    exact ⟨⟨_, (seed_byte _).1, (seed_byte _).2, rfl⟩, cur_step (unhide HR) (unhide HC) hk _ _ _⟩

set_option maxHeartbeats 1000000 in
theorem pick_any (b m : Nat) (n : Int) (w : World) (hm : m ≤ 900000) (hn : 1 ≤ n) (hn2 : n ≤ 65536) (hc : CurOk w b m) :
    Calls Try.prog 8 #[.pointer (some ⟨b, 0, none⟩), .int .i64 n] w fun e w' => (∃ r : Int, 0 ≤ r ∧ r < n ∧ e = .returned (.int .i64 r)) ∧ CurOk w' b (m + 2) ∧ But b w w' := by
  have HC := hide hc
  clear hc
  by_cases h1 : n ≤ 1
  · go_enter Try.func8, Try.ntmps8
    go_wp2_with fail
    go_ret
    exact ⟨⟨0, by omega, by omega, rfl⟩, (unhide HC).mono (by omega), But.refl _ _⟩
  have hne : ¬ n = 0 := by omega
  by_cases h2 : 200 < n
  · go_enter Try.func8, Try.ntmps8
    go_wp2_with fail
    refine (next_any b m _ (by omega) (unhide HC)).mono ?_
    rintro e w1 ⟨⟨r, r0, r1, rfl⟩, hc1, hb1⟩
    have HC1 := hide hc1
    clear hc1
    go_wp2_with fail
    refine (next_any b (m + 1) _ (by omega) (unhide HC1)).mono ?_
    rintro e w2 ⟨⟨q, q0, q1, rfl⟩, hc2, hb2⟩
    have HC2 := hide hc2
    clear hc2
    go_wp2_with fail
    go_ret
    exact ⟨⟨_, Int.emod_nonneg _ hne, Int.emod_lt_of_pos _ (by omega), rfl⟩, unhide HC2, hb1.trans hb2⟩
  · go_enter Try.func8, Try.ntmps8
    go_wp2_with fail
    refine (next_any b m _ (by omega) (unhide HC)).mono ?_
    rintro e w1 ⟨⟨r, r0, r1, rfl⟩, hc1, hb1⟩
    have HC1 := hide hc1
    clear hc1
    go_wp2_with fail
    go_ret
    exact ⟨⟨_, Int.emod_nonneg _ hne, Int.emod_lt_of_pos _ (by omega), rfl⟩, (unhide HC1).mono (by omega), hb1⟩

theorem one_any (b m : Nat) (n : Int) (w : World) (hm : m ≤ 900000) (hn : 1 ≤ n) (hn2 : n ≤ 65536) (hc : CurOk w b m) :
    Calls Try.prog 10 #[.pointer (some ⟨b, 0, none⟩), .int .i64 n] w fun e w' => RetB' e ∧ CurOk w' b (m + 2) ∧ But b w w' := by
  have HC := hide hc
  clear hc
  go_enter Try.func10, Try.ntmps10
  go_wp2_with fail
  refine (pick_any b m n _ hm hn hn2 (unhide HC)).mono ?_
  rintro e w1 ⟨⟨r, r0, r1, rfl⟩, hc1, hb1⟩
  have HC1 := hide hc1
  clear hc1
  go_wp2_with fail
  go_ret
  exact ⟨⟨_, rfl⟩, unhide HC1, hb1⟩
theorem code_of {w : World} {a : Option Addr} {len cap : Nat} {zs : List Int}
    (h : (a = none ∧ len = 0 ∧ cap = 0 ∧ zs = []) ∨ ∃ x, a = some x ∧ len ≤ cap ∧ cap ≤ maxLen ∧ zs.length = cap ∧ (∀ i, i < zs.length → w.cell? (x.add i) = some (.int .u8 (zs.getD i 0))) ∧ ∀ n ∈ zs, (Lit.int .u8 n).wf = true) : CodeAt w w.heap.size a len := by
  rcases h with ⟨rfl, rfl, rfl, rfl⟩ | ⟨x, rfl, h1, h2, h3, h4, h5⟩
  · exact ⟨Nat.zero_le _, .inl rfl⟩
  refine ⟨by omega, ?_⟩
  by_cases h0 : len = 0
  · exact .inl h0
  have c0 := h4 0 (by omega)
  have hs : x.spot = none ∧ x.block < w.heap.size := by
    have e : x.add 0 = x := rfl
    rw [e] at c0
    unfold World.cell? at c0
    split at c0
    · rename_i hh
      refine ⟨?_, (Array.getElem?_eq_some_iff.1 hh).1⟩
      cases hx : x.spot
      · rfl
      · rw [hx] at c0; simp at c0
    · cases c0
  obtain ⟨blk, off, spot⟩ := x
  obtain ⟨rfl, hb⟩ := hs
  refine .inr ⟨blk, off, rfl, hb, hb, fun i hi => ?_⟩
  have ci := h4 i (by omega)
  have ea : (⟨blk, off, none⟩ : Addr).add i = ⟨blk, off + i, none⟩ := by unfold Addr.add; split <;> simp_all
  rw [ea] at ci
  refine ⟨_, ?_, ?_, ci⟩
  all_goals
    have hm : zs.getD i 0 ∈ zs := by
      rw [List.getD_eq_getElem?_getD, List.getElem?_eq_getElem (by omega)]
      simp
    have := h5 _ hm
    generalize zs.getD i 0 = z at this ⊢
    simp [Lit.wf, IntKind.min, IntKind.max, IntKind.signed, IntKind.bits] at this
    omega
end Go.Proofs.Ytjmpakpodhbbpaa.C
