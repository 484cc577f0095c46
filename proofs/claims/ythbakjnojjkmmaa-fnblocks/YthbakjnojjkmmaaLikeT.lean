/- spec.Like (17): the walk. -/
import Derived.Test.YthbakjnojjkmmaaLikeS
namespace Go.Proofs.Ythbakjnojjkmmaa
open Go.RowKit

/-- The first k tokens are met by the first i bytes. -/
def Fk (ts : List (Option UInt8)) (tx : List UInt8) (i k : Nat) : Prop := Mt (ts.take k) (tx.take i)
theorem take_tok {ts : List (Option UInt8)} {k : Nat} (h : k < ts.length) : ts.take (k + 1) = ts.take k ++ [ts[k]] := by
  rw [List.take_succ_eq_append_getElem h]
theorem Fk.zero (ts : List (Option UInt8)) (tx : List UInt8) : Fk ts tx 0 0 := by unfold Fk; simp [Mt]
theorem Fk.star0 {ts : List (Option UInt8)} (tx : List UInt8) {k : Nat} (h : k < ts.length) (e : ts[k] = none) : Fk ts tx 0 (k + 1) ↔ Fk ts tx 0 k := by
  unfold Fk; rw [take_tok h, e, List.take_zero]; exact Mt.star_nil _
theorem Fk.own0 {ts : List (Option UInt8)} (tx : List UInt8) {k : Nat} (h : k < ts.length) {c : UInt8} (e : ts[k] = some c) : ¬ Fk ts tx 0 (k + 1) := by
  unfold Fk; rw [take_tok h, e, List.take_zero]; exact Mt.own_nil _ _
theorem Fk.nil (ts : List (Option UInt8)) {tx : List UInt8} {i : Nat} (hi : i < tx.length) : ¬ Fk ts tx (i + 1) 0 := by
  unfold Fk; rw [List.take_succ_eq_append_getElem hi, List.take_zero]; exact Mt.nil_snoc _ _
theorem Fk.star {ts : List (Option UInt8)} {tx : List UInt8} {i k : Nat} (hi : i < tx.length) (h : k < ts.length) (e : ts[k] = none) : Fk ts tx (i + 1) (k + 1) ↔ (Fk ts tx i (k + 1) ∨ Fk ts tx (i + 1) k) := by
  unfold Fk; rw [take_tok h, e, List.take_succ_eq_append_getElem hi]; exact Mt.star_snoc _ _ _
theorem Fk.own {ts : List (Option UInt8)} {tx : List UInt8} {i k : Nat} (hi : i < tx.length) (h : k < ts.length) {c : UInt8} (e : ts[k] = some c) : Fk ts tx (i + 1) (k + 1) ↔ (Fk ts tx i k ∧ c = tx[i]) := by
  unfold Fk; rw [take_tok h, e, List.take_succ_eq_append_getElem hi]; exact Mt.own_snoc _ _ _ _
theorem Fk.all {ts : List (Option UInt8)} {tx : List UInt8} {m n : Nat} (hm : m = ts.length) (hn : n = tx.length) : Fk ts tx n m ↔ Mt ts tx := by
  unfold Fk; rw [hm, hn, List.take_length, List.take_length]

set_option maxHeartbeats 2000000 in
theorem sLike_main (t p : ByteArray) (w : World) (h1 : t.size ≤ 200) (h2 : p.size ≤ 200) :
    Calls Try.prog 17 #[.string t, .string p] w fun e w' => RetB e (Likes t p) ∧ Below w.heap.size w w' := by
  have d1 : decide (200 < (t.size : Int)) = false := by simp; omega
  have d2 : decide (200 < (p.size : Int)) = false := by simp; omega
  have q1 := hide (fun w => l1Tokens_any p h2 w)
  have ES : Hid (t.data.toList.length = t.size) := hide (by simp)
  go_enter Try.func17, Try.ntmps17
  go_wp2_with fail
  refine (unhide q1 _).mono ?_
  rintro e w1 ⟨hT, hb1⟩
  rcases hT with ⟨hn, rfl⟩ | ⟨ts, v, hts, rfl, hown⟩
  · have hn' : Hid (¬ Likes t p) := hide (fun ⟨_, _, ts, h, _⟩ => by rw [hn] at h; cases h)
    clear hn
    go_wp2_with fail
    go_ret
    exact ⟨retB (b := false) ⟨fun h => (by cases h), fun h => absurd h (unhide hn')⟩, hb1⟩
  obtain ⟨a, cap, rfl, hsp⟩ := own_ints hown
  have hl := toks_len200 h2 hts
  have hy : Hid (Likes t p ↔ Mt ts t.data.toList) := hide ⟨fun ⟨_, _, us, h, h'⟩ => by rw [hts] at h; cases h; exact h', fun h => ⟨h1, h2, ts, hts, h⟩⟩
  obtain ⟨m, hm⟩ : ∃ m, m = ts.length := ⟨_, rfl⟩
  rw [← hm] at hsp hl ⊢
  have EM := hide hm
  have HSP := hide hsp
  have B1 := hide hb1
  clear hown hts hsp hb1 hm q1
  obtain ⟨w2, hrun, hb2, hrow⟩ := make_bools m w1 (fun _ => False) hl (fun h => h)
  have f0 := hrow.froz 0
  obtain ⟨β0, k0⟩ := hrow.some (Nat.zero_le m)
  have R0 := hide (hrow.first (β := true) (g := Fk ts t.data.toList 0) ⟨fun _ => Fk.zero _ _, fun _ => rfl⟩)
  have B2 := hide (hb2.setCell (p := ⟨w1.heap.size, 0, none⟩) (Nat.le_refl _) (.bool true))
  clear hb2 hrow
  go_wp2_with fail
  clear hrun f0 k0
  go_loopw [37] (fun x w' => ∃ q : Nat, q ≤ m ∧ x = .int .i64 q ∧ Hid (RowB w' w1.heap.size m (Fk ts t.data.toList 0) q) ∧ Hid (Below w1.heap.size w1 w')) (fun x _ => m - (intOf x).toNat)
  case atStart => exact ⟨0, Nat.zero_le _, rfl, R0, B2⟩
  case round =>
    clear R0 B2
    obtain ⟨q, hq, rfl, hR, hB⟩ := hrel
    by_cases hlt : q < m
    · have hq' : q < ts.length := by rw [← unhide EM]; exact hlt
      obtain ⟨g, rfl, zg, hcells⟩ := ((unhide HSP).keep (unhide hB)).at hlt
      have c0 := hcells q hq'
      obtain ⟨β, r0, hβ⟩ := (unhide hR).at (k := q) (by omega) (by omega)
      obtain ⟨γ, r1⟩ := (unhide hR).some (k := q + 1) (by omega)
      have fr := (unhide hR).froz (q + 1)
      have Hβ := hide hβ
      clear hβ hcells
      have i1 : (q : Int) + 1 < (m : Int) + 1 := by omega
      cases ht : ts[q] with
      | none =>
        rw [ht] at c0
        have hS := hide (Fk.star0 t.data.toList hq' ht)
        clear ht
        have c0' : tokI none = 256 := rfl
        rw [c0'] at c0
        clear c0'
        cases β
        · have R := hide ((unhide hR).step (β := false) (by omega) (by rw [unhide hS, ← unhide Hβ]))
          go_wp2_with fail
          exact ⟨⟨q + 1, by omega, by go_num, R, hide ((unhide hB).setCell (Nat.le_refl _) _)⟩, by simp [intOf]; omega⟩
        · have R := hide ((unhide hR).step (β := true) (by omega) (by rw [unhide hS, ← unhide Hβ]))
          go_wp2_with fail
          exact ⟨⟨q + 1, by omega, by go_num, R, hide ((unhide hB).setCell (Nat.le_refl _) _)⟩, by simp [intOf]; omega⟩
      | some d =>
        rw [ht] at c0
        have hS := hide (Fk.own0 t.data.toList hq' ht)
        clear ht
        have c0' : tokI (some d) = (d.toNat : Int) := rfl
        rw [c0'] at c0
        have dd : ((d.toNat : Int) == 256) = false := by
          have := d.toNat_lt
          rw [beq_eq_false_iff_ne]; omega
        clear c0'
        have R := hide ((unhide hR).step (β := false) (by omega) ⟨fun h => (by cases h), fun h => absurd h (unhide hS)⟩)
        cases β
        · go_wp2_with fail
          exact ⟨⟨q + 1, by omega, by go_num, R, hide ((unhide hB).setCell (Nat.le_refl _) _)⟩, by simp [intOf]; omega⟩
        · go_wp2_with fail
          exact ⟨⟨q + 1, by omega, by go_num, R, hide ((unhide hB).setCell (Nat.le_refl _) _)⟩, by simp [intOf]; omega⟩
    · obtain rfl : q = m := by omega
      obtain ⟨wo, rfl⟩ : ∃ wo : World, wo = wr := ⟨_, rfl⟩
      go_wp2_with fail
      go_loopw [7, 10] (fun x y w' => ∃ b i : Nat, i ≤ t.size ∧ x = .slice (some ⟨b, 0, none⟩) (q + 1) (q + 1) ∧ y = .int .i64 i ∧ Hid (w1.heap.size ≤ b) ∧ Hid (RowB w' b q (Fk ts t.data.toList i) q) ∧ Hid (Below w1.heap.size w1 w')) (fun _ y _ => t.size - (intOf y).toNat)
      case atStart => exact ⟨_, 0, Nat.zero_le _, rfl, rfl, hide (Nat.le_refl _), hR, hB⟩
      case round =>
        clear hR hB
        obtain ⟨b, i, hi, rfl, rfl, hbw, hR, hB⟩ := hrel
        by_cases hlt2 : i < t.size
        · have ii : i < t.data.toList.length := by rw [unhide ES]; exact hlt2
          obtain ⟨c, hc⟩ : ∃ c, t[i] = c := ⟨_, rfl⟩
          have HC : Hid (t.data.toList[i] = c) := hide hc
          obtain ⟨w3, hrun3, hb3, hrow3⟩ := make_bools q wr (Fk ts t.data.toList (i + 1)) hl (Fk.nil ts ii)
          have R3 := hide hrow3
          have RN := hide ((unhide hR).keep hb3)
          have nb : Hid (b ≠ wr.heap.size) := hide (by have := (unhide hR).lt; omega)
          have B3 := hide (bTr (unhide hB) hb3)
          have zw : Hid (w1.heap.size ≤ wr.heap.size) := hide (unhide hB).size
          clear hb3 hrow3
          obtain ⟨wq, rfl⟩ : ∃ wq : World, wq = wr := ⟨_, rfl⟩
          go_wp2_with fail
          clear hrun3
          go_loopw [67] (fun x w' => ∃ k : Nat, k ≤ q ∧ x = .int .i64 k ∧ Hid (RowB w' wq.heap.size q (Fk ts t.data.toList (i + 1)) k) ∧ Hid (RowB w' b q (Fk ts t.data.toList i) q) ∧ Hid (Below w1.heap.size w1 w')) (fun x _ => q - (intOf x).toNat)
          case atStart => exact ⟨0, Nat.zero_le _, rfl, R3, RN, B3⟩
          case round =>
            clear R3 RN B3
            obtain ⟨k, hk, rfl, hN, hO, hB'⟩ := hrel
            by_cases hkl : k < q
            · have hk' : k < ts.length := by rw [← unhide EM]; exact hkl
              obtain ⟨g, rfl, zg, hcells⟩ := ((unhide HSP).keep (unhide hB')).at hkl
              have c0 := hcells k hk'
              obtain ⟨γ, r1⟩ := (unhide hN).some (k := k + 1) (by omega)
              have fr := (unhide hN).froz (k + 1)
              have i1 : (k : Int) + 1 < (q : Int) + 1 := by omega
              cases ht : ts[k] with
              | none =>
                rw [ht] at c0
                have c0' : tokI none = 256 := rfl
                rw [c0'] at c0
                obtain ⟨β, r0, hβ⟩ := (unhide hO).at (k := k + 1) (by omega) (by omega)
                obtain ⟨δ, r2, hδ⟩ := (unhide hN).at (k := k) (by omega) (by omega)
                have hS := hide (Fk.star ii hk' ht)
                have R := hide ((unhide hN).step (β := β || δ) (by omega) (by rw [unhide hS, ← hβ, ← hδ]; simp))
                clear hβ hδ hcells ht c0'
                cases β
                · go_wp2_with fail
                  exact ⟨⟨k + 1, by omega, by go_num, R, hide ((unhide hO).setOther _ (unhide nb)), hide ((unhide hB').setCell (unhide zw) _)⟩, by simp [intOf]; omega⟩
                · go_wp2_with fail
                  exact ⟨⟨k + 1, by omega, by go_num, R, hide ((unhide hO).setOther _ (unhide nb)), hide ((unhide hB').setCell (unhide zw) _)⟩, by simp [intOf]; omega⟩
              | some d =>
                rw [ht] at c0
                have c0' : tokI (some d) = (d.toNat : Int) := rfl
                rw [c0'] at c0
                obtain ⟨β, r0, hβ⟩ := (unhide hO).at (k := k) (by omega) (by omega)
                have hS := hide (Fk.own ii hk' ht)
                have dd : ((d.toNat : Int) == 256) = false := by
                  have := d.toNat_lt
                  rw [beq_eq_false_iff_ne]; omega
                have cb : (c.toNat : Int) ≤ 255 := by have := c.toNat_lt; omega
                have cb0 : (0 : Int) ≤ (c.toNat : Int) := by omega
                obtain ⟨ε, hε⟩ : ∃ ε : Bool, ((d.toNat : Int) == (c.toNat : Int)) = ε := ⟨_, rfl⟩
                have R := hide ((unhide hN).step (β := β && ε) (by omega) (by
                  rw [unhide hS, ← hβ, unhide HC, ← hε]
                  simp only [Bool.and_eq_true, beq_iff_eq]
                  exact ⟨fun h => ⟨h.1, u8_inj h.2⟩, fun h => ⟨h.1, by rw [h.2]⟩⟩))
                clear hβ hcells ht c0'
                cases β
                · go_wp2_with fail
                  exact ⟨⟨k + 1, by omega, by go_num, R, hide ((unhide hO).setOther _ (unhide nb)), hide ((unhide hB').setCell (unhide zw) _)⟩, by simp [intOf]; omega⟩
                · go_wp2_with fail
                  exact ⟨⟨k + 1, by omega, by go_num, R, hide ((unhide hO).setOther _ (unhide nb)), hide ((unhide hB').setCell (unhide zw) _)⟩, by simp [intOf]; omega⟩
            · obtain rfl : k = q := by omega
              go_wp2_with fail
              exact ⟨⟨wq.heap.size, i + 1, by omega, rfl, by go_num, zw, hN, hB'⟩, by simp [intOf]; omega⟩
        · obtain ⟨β, r0, hβ⟩ := (unhide hR).at (k := q) (Nat.le_refl _) (Nat.le_refl _)
          have Hβ : Hid (β = true ↔ Likes t p) := hide (by
            rw [hβ, unhide hy, Fk.all (unhide EM) (by rw [unhide ES]; omega)])
          clear hβ
          have i1 : (q : Int) < (q : Int) + 1 := by omega
          go_wp2_with fail
          go_ret
          exact ⟨retB (unhide Hβ), bTr (unhide B1) (unhide hB)⟩

theorem sLike_any (t p : ByteArray) (w : World) (ht : t.size ≤ maxLen) (hp : p.size ≤ maxLen) :
    Calls Try.prog 17 #[.string t, .string p] w fun e w' => RetB e (Likes t p) ∧ Below w.heap.size w w' := by
  unfold maxLen at ht hp
  by_cases h1 : 200 < t.size
  · have d1 : decide (200 < (t.size : Int)) = true := by simp; omega
    have hn : Hid (¬ Likes t p) := hide (fun h => by have := h.1; omega)
    go_enter Try.func17, Try.ntmps17
    go_wp2_with fail
    go_ret
    exact ⟨retB (b := false) ⟨fun h => (by cases h), fun h => absurd h (unhide hn)⟩, Below.refl _ _⟩
  by_cases h2 : 200 < p.size
  · have d1 : decide (200 < (t.size : Int)) = false := by simp; omega
    have d2 : decide (200 < (p.size : Int)) = true := by simp; omega
    have hn : Hid (¬ Likes t p) := hide (fun h => by have := h.2.1; omega)
    go_enter Try.func17, Try.ntmps17
    go_wp2_with fail
    go_ret
    exact ⟨retB (b := false) ⟨fun h => (by cases h), fun h => absurd h (unhide hn)⟩, Below.refl _ _⟩
  exact sLike_main t p w (by omega) (by omega)
end Go.Proofs.Ythbakjnojjkmmaa
