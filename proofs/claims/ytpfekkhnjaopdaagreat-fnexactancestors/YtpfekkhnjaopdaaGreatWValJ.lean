/- WValJ, ported from seat 1a. -/
import Derived.Test.YtpfekkhnjaopdaaGreatWValI
namespace Go.Proofs.YtpfekkhnjaopdaaGreat.V
open Go.RowKit

set_option maxHeartbeats 1000000 in
theorem risingN_any (a : Option Addr) (len cap : Nat) (l : List ByteArray) (w : World) (hl : len ≤ 50) (hs : SlS w a len l) :
    Calls Tryz.prog 119 #[.slice a len cap, .func (.func 120) #[] #[]] w fun e w' => RetB e (RisN l l.length) ∧ Below w.heap.size w w' := by
  have HS := hide hs
  clear hs
  go_enter Tryz.func119, Tryz.ntmps119
  go_wp2
  go_loopw [5] (fun i w' => ∃ k : Nat, 1 ≤ k ∧ (k ≤ len ∨ k = 1) ∧ i = .int .i64 k ∧ Hid (Below w.heap.size w w') ∧ Hid (RisN l k)) (fun i _ => len - (intOf i).toNat)
  case atStart => exact ⟨1, Nat.le_refl _, .inr rfl, rfl, hide (Below.refl _ _), hide (fun i _ h h' => absurd h (by omega))⟩
  case round =>
    obtain ⟨k, hk1, hk, rfl, hb, hris⟩ := hrel
    by_cases hlt : k < len
    · obtain ⟨j, rfl⟩ : ∃ j, k = j + 1 := ⟨k - 1, by omega⟩
      have hk' : j + 1 < l.length := by rw [← (unhide HS).1]; exact hlt
      obtain ⟨b, off, rfl, hrow⟩ := ((unhide HS).keep (unhide hb)).at hlt
      have pk := hrow.c (j + 1) hk'
      have pj := hrow.c j (by omega)
      have zk := hrow.z
      have qc := hide (fun w => stringsCompare_any l[j] l[j + 1] w)
      have stepR := hide (fun g : cmpT l[j].data.toList l[j + 1].data.toList < 0 => (unhide hris).step hk' (fun _ => g))
      have noR := hide (fun (g : ¬ cmpT l[j].data.toList l[j + 1].data.toList < 0) (h : RisN l l.length) => g (h (j + 1) hk' (by omega) hk'))
      clear hrow
      generalize l[j + 1] = P at *
      generalize l[j] = Q at *
      have ne : Nonempty (Kept wr) := ⟨⟨wr, Below.refl _ _⟩⟩
      have x0 := kept_cell zk pk
      have t0 := kept_cell zk pj
      have ej : IntKind.i64.wrap ((j : Int) + 1 - 1) = (j : Int) := by rw [IntKind.wrap_i64]; omega
      have i0 : (0 : Int) ≤ (j : Int) := by omega
      have i1 : (j : Int) < (len : Int) := by omega
      have i2 : (j : Int) + 1 < (len : Int) := by omega
      clear pk pj
      by_cases hc : cmpT Q.data.toList P.data.toList < 0
      · have dc : decide (0 ≤ cmpT Q.data.toList P.data.toList) = false := by simp; omega
        replace stepR := hide (unhide stepR hc)
        clear hc
        go_wp2_with fail
        refine wp_region_kept (by kernel_rfl) (by kernel_rfl) ?_
        repeat (first
          | go_big_quiet_step ((go_at_call 120; exact kept_same (unhide qc _)))
          | quiet_step ((go_at_call 120; exact kept_same (unhide qc _))))
        refine wpQuiet_nil ?_
        rintro _ ⟨q, rfl⟩
        go_wp2_with fail
        exact ⟨⟨j + 1 + 1, by omega, by omega, by go_num, hide (bTr (unhide hb) q.h), stepR⟩, by simp [intOf]; omega⟩
      · have dc : decide (0 ≤ cmpT Q.data.toList P.data.toList) = true := by simp; omega
        replace noR := hide (unhide noR hc)
        clear hc
        go_wp2_with fail
        refine wp_region_kept (by kernel_rfl) (by kernel_rfl) ?_
        repeat (first
          | go_big_quiet_step ((go_at_call 120; exact kept_same (unhide qc _)))
          | quiet_step ((go_at_call 120; exact kept_same (unhide qc _))))
        refine wpQuiet_nil ?_
        rintro _ ⟨q, rfl⟩
        go_wp2_with fail
        go_ret
        exact ⟨retB (b := false) ⟨fun h => (by cases h), fun h => absurd h (unhide noR)⟩, bTr (unhide hb) q.h⟩
    · have hR : Hid (RisN l l.length) := hide (fun i h h0 h1 => by
        have hl' := (unhide HS).1
        exact unhide hris i h h0 (by omega))
      go_wp2_with fail
      go_ret
      exact ⟨retB (b := true) ⟨fun _ => unhide hR, fun _ => rfl⟩, unhide hb⟩

set_option maxHeartbeats 400000 in
theorem goodSet_any (a : Option Addr) (len cap : Nat) (l : List AtomT) (w : World) (hl : len ≤ maxLen) (hs : SlA w a len l) (hi : ∀ q ∈ l, AtomT.Ok q) :
    Calls Tryz.prog 141 #[.slice a len cap] w fun e w' => RetB e (l.length ≤ 50 ∧ AllA l l.length ∧ RisA l l.length) ∧ Below w.heap.size w w' := by
  have qa := hide (goodItems_any a len cap l w hl hs hi)
  have HS := hide hs
  by_cases h : l.length ≤ 50 ∧ AllA l l.length
  · have qr := hide (fun w (hs : SlA w a len l) => risingA_any a len cap l w (by rw [hs.1]; exact h.1) hs hi h.2)
    have H := hide h
    clear hs h hi
    go_enter Tryz.func141, Tryz.ntmps141
    go_wp2_with fail
    refine (unhide qa).mono ?_
    rintro e w5 ⟨⟨b, rfl, hb⟩, hb5⟩
    obtain rfl : b = true := hb.2 (unhide H)
    clear hb qa
    go_wp2_with fail
    refine (unhide qr _ ((unhide HS).keep hb5)).mono ?_
    rintro e w6 ⟨⟨b, rfl, hb⟩, hb6⟩
    have HB := hide hb
    clear hb
    go_wp2_with fail
    go_ret
    exact ⟨retB (by rw [unhide HB]; exact ⟨fun h => ⟨(unhide H).1, (unhide H).2, h⟩, fun h => h.2.2⟩), bTr hb5 hb6⟩
  · have H := hide h
    clear hs h hi
    go_enter Tryz.func141, Tryz.ntmps141
    go_wp2_with fail
    refine (unhide qa).mono ?_
    rintro e w5 ⟨⟨b, rfl, hb⟩, hb5⟩
    obtain rfl : b = false := by
      cases b
      · rfl
      · exact absurd (hb.1 rfl) (unhide H)
    clear hb qa
    go_wp2_with fail
    go_ret
    exact ⟨retB (b := false) ⟨fun h => (by cases h), fun h => absurd ⟨h.1, h.2.1⟩ (unhide H)⟩, hb5⟩

set_option maxHeartbeats 1000000 in
theorem goodRecord_any (a a2 : Option Addr) (len cap l2 c2 : Nat) (l : List AtomT) (n : List ByteArray) (w : World) (hl : len ≤ maxLen) (hs : SlA w a len l) (hs2 : SlS w a2 l2 n) (hi : ∀ q ∈ l, AtomT.Ok q) (hn : ∀ q ∈ n, ByteArray.size q ≤ maxLen) :
    Calls Tryz.prog 142 #[.slice a2 l2 c2, .slice a len cap] w fun e w' => RetB e (n.length = l.length ∧ (l.length ≤ 50 ∧ AllA l l.length) ∧ AllN n n.length ∧ RisN n n.length) ∧ Below w.heap.size w w' := by
  have qa := hide (goodItems_any a len cap l w hl hs hi)
  have HS := hide hs
  have HS2 := hide hs2
  clear hs hs2 hi
  by_cases hne : l2 = len
  · subst hne
    by_cases h : l.length ≤ 50 ∧ AllA l l.length
    · have h50 : l2 ≤ 50 := by rw [(unhide HS).1]; exact h.1
      have qr := hide (fun w (hs : SlS w a2 l2 n) => risingN_any a2 l2 c2 n w h50 hs)
      have H := hide h
      clear h
      go_enter Tryz.func142, Tryz.ntmps142
      go_wp2_with fail
      refine (unhide qa).mono ?_
      rintro e w5 ⟨⟨b, rfl, hb⟩, hb5⟩
      obtain rfl : b = true := hb.2 (unhide H)
      clear hb qa
      go_wp2_with fail
      go_loopw [19] (fun i w' => ∃ k : Nat, k ≤ l2 ∧ i = .int .i64 k ∧ Hid (Below w.heap.size w w') ∧ Hid (AllN n k)) (fun i _ => l2 - (intOf i).toNat)
      case atStart => exact ⟨0, Nat.zero_le _, rfl, hide hb5, hide (fun i _ h => absurd h (Nat.not_lt_zero _))⟩
      case round =>
        obtain ⟨k, hk, rfl, hb, hall⟩ := hrel
        clear hb5
        by_cases hlt : k < l2
        · have hk' : k < n.length := by rw [← (unhide HS2).1]; exact hlt
          obtain ⟨b, off, rfl, hrow⟩ := ((unhide HS2).keep (unhide hb)).at hlt
          have c0 := hrow.c k hk'
          have qk := hide (fun w => iGoodName_any n[k] (hn _ (List.getElem_mem hk')) w)
          have stepA := hide (fun g => (unhide hall).step hk' g)
          have noA : Hid (goodName n[k] = false → ¬ AllN n n.length) := hide (fun g h => by have := h k hk' hk'; rw [g] at this; cases this)
          clear hrow
          generalize n[k] = P at *
          cases g : goodName P
          · rw [g] at qk
            replace noA := hide (unhide noA g)
            clear g
            go_wp2_with (go_at_call 64; refine (unhide qk _).mono ?_; rintro e w6 ⟨rfl, hb6⟩)
            go_ret
            exact ⟨retB (b := false) ⟨fun h => (by cases h), fun h => absurd h.2.2.1 (unhide noA)⟩, bTr (unhide hb) hb6⟩
          · rw [g] at qk
            replace stepA := hide (unhide stepA g)
            clear g
            go_wp2_with (go_at_call 64; refine (unhide qk _).mono ?_; rintro e w6 ⟨rfl, hb6⟩)
            exact ⟨⟨k + 1, by omega, by go_num, hide (bTr (unhide hb) hb6), stepA⟩, by simp [intOf]; omega⟩
        · have e : k = n.length := by rw [← (unhide HS2).1]; omega
          have hA : Hid (AllN n n.length) := hide (by rw [← e]; exact unhide hall)
          clear e
          go_wp2_with fail
          refine (unhide qr _ ((unhide HS2).keep (unhide hb))).mono ?_
          rintro e w6 ⟨⟨b, rfl, hb'⟩, hb6⟩
          have HB := hide hb'
          clear hb'
          go_wp2_with fail
          go_ret
          exact ⟨retB (by rw [unhide HB]; exact ⟨fun h => ⟨by rw [← (unhide HS).1, ← (unhide HS2).1], unhide H, unhide hA, h⟩, fun h => h.2.2.2⟩), bTr (unhide hb) hb6⟩
    · have H := hide h
      clear h
      go_enter Tryz.func142, Tryz.ntmps142
      go_wp2_with fail
      refine (unhide qa).mono ?_
      rintro e w5 ⟨⟨b, rfl, hb⟩, hb5⟩
      obtain rfl : b = false := by
        cases b
        · rfl
        · exact absurd (hb.1 rfl) (unhide H)
      clear hb qa
      go_wp2_with fail
      go_ret
      exact ⟨retB (b := false) ⟨fun h => (by cases h), fun h => absurd h.2.1 (unhide H)⟩, hb5⟩
  · have d : ((l2 : Int) != (len : Int)) = true := by simp; omega
    have HN := hide hne
    clear hne
    go_enter Tryz.func142, Tryz.ntmps142
    go_wp2_with fail
    go_ret
    exact ⟨retB (b := false) ⟨fun h => (by cases h), fun h => absurd h.1 (by rw [← (unhide HS).1, ← (unhide HS2).1]; exact unhide HN)⟩, Below.refl _ _⟩
end Go.Proofs.YtpfekkhnjaopdaaGreat.V
