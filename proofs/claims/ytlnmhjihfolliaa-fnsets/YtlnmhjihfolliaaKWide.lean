/- KWide, ported from seat 1a. -/
import Derived.Test.YtlnmhjihfolliaaKEsc
import Derived.Laws.Closers25b
namespace Go.Proofs.Ytlnmhjihfolliaa.V
open Go.RowKit

set_option maxHeartbeats 1000000 in
theorem wide_any (b m : Nat) (w : World) (hm : m ≤ 700000) (hc : CurOk w b m) :
    Calls Try.prog 26 #[.pointer (some ⟨b, 0, none⟩)] w fun e w' => (∃ n : Int, -9223372036854775808 ≤ n ∧ n ≤ 9223372036854775807 ∧ e = .returned (.int .i64 n)) ∧ CurOk w' b (m + 8) ∧ But b w w' := by
  have HC := hide hc
  clear hc
  go_enter Try.func26, Try.ntmps26
  go_wp2_with fail
  go_loopw [3, 4] (fun x i w' => ∃ (n : Int) (k : Nat), x = .int .i64 n ∧ i = .int .i64 k ∧ k ≤ 8 ∧ -9223372036854775808 ≤ n ∧ n ≤ 9223372036854775807 ∧ Hid (CurOk w' b (m + k)) ∧ Hid (But b w w')) (fun _ i _ => 8 - (intOf i).toNat)
  case atStart => exact ⟨0, 0, rfl, rfl, by omega, by omega, by omega, HC, hide (But.refl _ _)⟩
  case round =>
    obtain ⟨n, k, rfl, rfl, hk, hn0, hn, hc, hb⟩ := hrel
    by_cases hlt : k < 8
    · go_wp2_with fail
      refine (next_any b (m + k) _ (by omega) (unhide hc)).mono ?_
      rintro e w1 ⟨⟨r, r0, r1, rfl⟩, hc1, hb1⟩
      have HC1 := hide hc1
      have B1 := hide ((unhide hb).trans hb1)
      clear hc1 hb1
      go_wp2_with fail
      exact ⟨⟨_, k + 1, rfl, rfl, by omega, (bits_within _ _ _ _).1, (bits_within _ _ _ _).2, HC1, B1⟩, by simp [intOf]; omega⟩
    · go_wp2_with fail
      go_ret
      exact ⟨⟨n, hn0, hn, rfl⟩, (unhide hc).mono (by omega), unhide hb⟩
theorem CurOk.alW {w : World} {b m : Nat} (h : CurOk w b m) (o : Obj) : CurOk (w.alloc o) b m := h.keep (bAl (Below.refl _ _) o)
theorem own_but {w w' : World} {b base n : Nat} {v : Value} {xs : List Value} (h : w.ownsRow base 5 1 v n xs) (hb : But b w w') (hlt : b < base) : w'.ownsRow base 5 1 v n xs := by
  refine ⟨h.1, ?_⟩
  rcases h.2 with e | ⟨g, cap, cur, e, hg, hh, r⟩
  · exact .inl e
  · refine .inr ⟨g, cap, cur, e, hg, ?_, r⟩
    rw [hb.block g (Array.getElem?_eq_some_iff.1 hh).1 (by omega)]; exact hh
theorem But.thenBelow {b : Nat} {w x y : World} (h : But b w x) (k : Below w.heap.size x y) : But b w y :=
  ⟨k.os.trans h.os, k.tape.trans h.tape, k.output.trans h.output, Nat.le_trans h.size k.size, fun i hi hn => (k.block i hi).trans (h.block i hi hn)⟩
theorem CurOk.keepB {w w' : World} {b m B : Nat} (h : CurOk w b m) (hb : Below B w w') (hB : b < B) : CurOk w' b m := by
  obtain ⟨a, len, cap, k, seed, h1, h2, h3⟩ := h
  have e : RowIs w' b #[.slice a len cap, .int .i64 k, .int .u64 seed] 37 := by
    unfold RowIs at *; rw [hb.block b hB]; exact h1
  refine ⟨a, len, cap, k, seed, e, h2, h3.1, ?_⟩
  rcases h3.2 with e | ⟨blk, off, e, q, n, r⟩
  · exact .inl e
  · refine .inr ⟨blk, off, e, Nat.lt_of_lt_of_le q hb.size, n, fun i hi => ?_⟩
    obtain ⟨x, h1, h2, h3⟩ := r i hi
    exact ⟨x, h1, h2, by rw [World.cell?_of_block (hb.block blk (by omega))]; exact h3⟩

set_option maxHeartbeats 1000000 in
theorem printed_any (b m : Nat) (w : World) (hm : m ≤ 700000) (hc : CurOk w b m) :
    Calls Try.prog 27 #[.pointer (some ⟨b, 0, none⟩)] w fun e w' => (∃ s : ByteArray, s.size ≤ 10 ∧ e = .returned (.string s)) ∧ CurOk w' b (m + 20) ∧ But b w w' := by
  have hltb := hc.lt
  have HC := hide hc
  clear hc
  obtain ⟨i0, hi, hz0, hz1, hz2⟩ := info_parts info_u8
  go_enter Try.func27, Try.ntmps27
  go_wp2_with fail
  refine (pick_any b m 6 _ (by omega) (by omega) (by omega) (unhide HC)).mono ?_
  rintro e w1 ⟨⟨r, r0, r1, rfl⟩, hc1, hb1⟩
  obtain ⟨n0, rfl⟩ := Int.eq_ofNat_of_zero_le r0
  have HC1 := hide hc1
  have B1 := hide hb1
  clear hc1 hb1
  go_wp2_with fail
  go_loopw [3, 4] (fun v x w' => ∃ (l : List UInt8) (n : Nat), x = .int .i64 n ∧ l.length + n ≤ 5 ∧ Hid (w'.ownsRow w.heap.size 5 1 v l.length (l.map byteV)) ∧ Hid (CurOk w' b (m + 2 + 2 * (5 - n))) ∧ Hid (But b w w')) (fun _ x _ => (intOf x).toNat)
  case atStart => exact ⟨[], n0, rfl, by simp; omega, hide (World.ownsRow_nil _ _ _ _), hide ((unhide HC1).mono (by omega)), B1⟩
  case round =>
    clear HC1 B1
    obtain ⟨l, n, rfl, hl, hown, hc, hb⟩ := hrel
    by_cases hlt : 0 < n
    · go_wp2_with fail
      refine (pick_any b _ 18 _ (by omega) (by omega) (by omega) (unhide hc)).mono ?_
      rintro e w2 ⟨⟨q, q0, q1, rfl⟩, hc2, hb2⟩
      obtain ⟨j, rfl⟩ := Int.eq_ofNat_of_zero_le q0
      have hj : j < 18 := by omega
      have hown2 := hide (own_but (unhide hown) hb2 hltb)
      have HC2 := hide hc2
      have B2 := hide ((unhide hb).trans hb2)
      clear hc2 hb2
      go_wp2_with (at_builtin; refine wpList_append_own _ rfl _ _ 22 rfl w.heap.size 5 i0 (.int .u8 0) 1 1 Try.underlying22 hi hz0 hz1 hz2 rfl (by decide) _ _ _ rfl ((unhide hown2).alloc _) ⟨_, 0, none⟩ 1 1 [_] rfl rfl (cell_one_new _ _ _) (fun x hx => by simp at hx; subst hx; rfl) (by unfold maxLen; omega) (by omega) (by have := (unhide B2).size; simp; omega) ?_; intro v' w3 hown3 hgrow3 _)
      have G := (Below.refl w.heap.size _).grown hgrow3 (by have := (unhide B2).size; simp; omega) (fun k hk => ((unhide hown2).lt k hk).1)
      have CU := hide (((unhide HC2).alW _).keepB G hltb)
      have BU := hide (((unhide B2).al _).thenBelow G)
      exact ⟨⟨_, n - 1, int_eq' (by omega), by simp only [List.length_append, List.length_cons, List.length_nil]; omega, hide (own_snocU hown3), hide ((unhide CU).mono (by omega)), BU⟩, by simp [intOf]; omega⟩
    · have cv := conv_own (unhide hown)
      go_wp2_with fail
      go_ret
      exact ⟨⟨⟨l.toArray⟩, by show l.length ≤ 10; omega, rfl⟩, (unhide hc).mono (by omega), unhide hb⟩
end Go.Proofs.Ytlnmhjihfolliaa.V
