/- impl.goodVector. -/
import Derived.Test.YtmkjpdfpnjcpjaaQMs
import Derived.Test.YtmkjpdfpnjcpjaaQChG
namespace Go.Proofs.Ytmkjpdfpnjcpjaa
open Go.RowKit

def RisW (m : List (Int × Int)) (k : Nat) : Prop := ∀ i (h : i < m.length), 0 < i → i < k → m[i - 1].2 < m[i].2
theorem RisW.step {l : List (Int × Int)} {k : Nat} (h : RisW l k) (hk : k < l.length) (g : 0 < k → l[k - 1].2 < l[k].2) : RisW l (k + 1) := by
  intro i hi h0 h1
  rcases Nat.lt_or_ge i k with h2 | h2
  · exact h i hi h0 h2
  · obtain rfl : i = k := by omega
    exact g h0
def VcG (l : List (Int × Int)) : Prop := l.length ≤ 100 ∧ RisW l l.length
theorem cmpN_lt (a b : Int) : cmpN a b < 0 ↔ a < b := by
  unfold cmpN
  repeat (any_goals split)
  all_goals omega

set_option maxHeartbeats 400000 in
theorem whoOrder_any (t o t' o' : Int) (w : World) :
    Calls Try.prog 62 #[.agg #[.int .i64 t, .int .i64 o], .agg #[.int .i64 t', .int .i64 o']] w fun e w' => e = .returned (.int .i64 (cmpN o o')) ∧ Below w.heap.size w w' := by
  have q := hide (fun w => compareInt_any o o' w)
  generalize cmpN o o' = v at q ⊢
  go_enter Try.func62, Try.ntmps62
  go_wp2_with (go_at_call 63; refine (unhide q _).mono ?_; rintro e w' ⟨rfl, rfl⟩)
  go_ret
  exact ⟨rfl, bAl (bAl (Below.refl _ _) _) _⟩

set_option maxHeartbeats 1000000 in
theorem risingS_any (a : Option Addr) (len cap : Nat) (l : List (Int × Int)) (w : World) (hl : len ≤ 1000) (hs : SlSt w a len l) :
    Calls Try.prog 61 #[.slice a len cap, .func (.func 62) #[] #[]] w fun e w' => RetB e (RisW l l.length) ∧ Below w.heap.size w w' := by
  have HS := hide hs
  clear hs
  go_enter Try.func61, Try.ntmps61
  go_wp2
  go_loopw [5] (fun i w' => ∃ k : Nat, 1 ≤ k ∧ (k ≤ len ∨ k = 1) ∧ i = .int .i64 k ∧ Hid (Below w.heap.size w w') ∧ Hid (RisW l k)) (fun i _ => len - (Go.RowKit.intOf i).toNat)
  case atStart => exact ⟨1, Nat.le_refl _, .inr rfl, rfl, hide (Below.refl _ _), hide (fun i _ h h' => absurd h (by omega))⟩
  case round =>
    obtain ⟨k, hk1, hk, rfl, hb, hris⟩ := hrel
    by_cases hlt : k < len
    · obtain ⟨j, rfl⟩ : ∃ j, k = j + 1 := ⟨k - 1, by omega⟩
      have hk' : j + 1 < l.length := by rw [← (unhide HS).1]; exact hlt
      obtain ⟨b, off, rfl, hrow⟩ := ((unhide HS).keep (unhide hb)).at hlt
      have zk := hrow.z
      have p0 := hrow.c0 (j + 1) hk'
      have p1 := hrow.c1 (j + 1) hk'
      have q0 := hrow.c0 j (by omega)
      have q1 := hrow.c1 j (by omega)
      have qc := hide (fun w => whoOrder_any (l[j]'(by omega)).1 (l[j]'(by omega)).2 (l[j + 1]'hk').1 (l[j + 1]'hk').2 w)
      have stepR := hide (fun g : cmpN (l[j]'(by omega)).2 (l[j + 1]'hk').2 < 0 => (unhide hris).step hk' (fun _ => (cmpN_lt _ _).1 g))
      have noR := hide (fun (g : ¬ cmpN (l[j]'(by omega)).2 (l[j + 1]'hk').2 < 0) (h : RisW l l.length) => g ((cmpN_lt _ _).2 (h (j + 1) hk' (by omega) hk')))
      clear hrow
      generalize l[j + 1] = P at *
      generalize l[j] = Q at *
      have ne : Nonempty (Kept wr) := ⟨⟨wr, Below.refl _ _⟩⟩
      have x0 := kept_cell zk p0
      have y0 := kept_cell zk q0
      have x1 := kept_cell zk p1
      have y1 := kept_cell zk q1
      have ej : IntKind.i64.wrap ((j : Int) + 1 - 1) = (j : Int) := by rw [IntKind.wrap_i64]; omega
      have i0 : (0 : Int) ≤ (j : Int) := by omega
      have i1 : (j : Int) < (len : Int) := by omega
      have i2 : (j : Int) + 1 < (len : Int) := by omega
      clear p0 q0 p1 q1
      generalize cmpN Q.2 P.2 = V at qc stepR noR
      by_cases hc : V < 0
      · have dc : decide (0 ≤ V) = false := by simp; omega
        replace stepR := hide (unhide stepR hc)
        clear hc
        go_wp2_with fail
        refine wp_region_kept (by kernel_rfl) (by kernel_rfl) ?_
        repeat (first
          | go_big_quiet_step ((go_at_call 62; exact kept_call (unhide qc _)))
          | quiet_step ((go_at_call 62; exact kept_call (unhide qc _))))
        refine wpQuiet_nil ?_
        rintro _ ⟨q, rfl⟩
        go_wp2_with fail
        exact ⟨⟨j + 1 + 1, by omega, by omega, by go_num, hide (bTr (unhide hb) q.h), stepR⟩, by simp [Go.RowKit.intOf]; omega⟩
      · have dc : decide (0 ≤ V) = true := by simp; omega
        replace noR := hide (unhide noR hc)
        clear hc
        go_wp2_with fail
        refine wp_region_kept (by kernel_rfl) (by kernel_rfl) ?_
        repeat (first
          | go_big_quiet_step ((go_at_call 62; exact kept_call (unhide qc _)))
          | quiet_step ((go_at_call 62; exact kept_call (unhide qc _))))
        refine wpQuiet_nil ?_
        rintro _ ⟨q, rfl⟩
        go_wp2_with fail
        go_ret
        exact ⟨retB (b := false) ⟨fun h => (by cases h), fun h => absurd h (unhide noR)⟩, bTr (unhide hb) q.h⟩
    · have hR : Hid (RisW l l.length) := hide (fun i h h0 h1 => by
        have hl' := (unhide HS).1
        exact unhide hris i h h0 (by omega))
      go_wp2_with fail
      go_ret
      exact ⟨retB (b := true) ⟨fun _ => unhide hR, fun _ => rfl⟩, unhide hb⟩

set_option maxHeartbeats 400000 in
theorem goodVector_any (a : Option Addr) (len cap : Nat) (l : List (Int × Int)) (w : World) (hl : len ≤ maxLen) (hs : SlSt w a len l) :
    Calls Try.prog 42 #[.slice a len cap] w fun e w' => RetB e (VcG l) ∧ Below w.heap.size w w' := by
  unfold maxLen at hl
  have HS := hide hs
  have hll := hide hs.1
  clear hs
  by_cases h100 : (len : Int) ≤ 100
  · have q := hide (risingS_any a len cap l w (by omega) (unhide HS))
    have eq : Hid (VcG l ↔ RisW l l.length) := hide ⟨fun h => h.2, fun h => ⟨by rw [← unhide hll]; omega, h⟩⟩
    go_enter Try.func42, Try.ntmps42
    go_wp2_with fail
    refine (unhide q).mono ?_
    rintro e w1 ⟨⟨t, rfl, ht⟩, hb⟩
    have HT := hide ht
    have B := hide hb
    clear ht hb
    go_wp2_with fail
    go_ret
    exact ⟨retB ⟨fun h => (unhide eq).2 ((unhide HT).1 h), fun h => (unhide HT).2 ((unhide eq).1 h)⟩, unhide B⟩
  · have no : Hid (¬ VcG l) := hide (fun h => by have := h.1; rw [← unhide hll] at this; omega)
    go_enter Try.func42, Try.ntmps42
    go_wp2_with fail
    go_ret
    exact ⟨retB ⟨fun h => (by cases h), fun h => absurd h (unhide no)⟩, Below.refl _ _⟩
end Go.Proofs.Ytmkjpdfpnjcpjaa
