/- laws.markText, markPartS, heldPartS. -/
import Derived.Test.YthmjefmljcdpcaaQReS
namespace Go.Proofs.Ythmjefmljcdpcaa
open Go.RowKit

/-- The digits of n, ahead of O. -/
def mtx (n : Nat) (O : ByteArray) : ByteArray := if _h : n = 0 then O else mtx (n / 10) ((⟨#[UInt8.ofNat (48 + n % 10)]⟩ : ByteArray) ++ O)
termination_by n
decreasing_by omega
theorem mtx_zero (O : ByteArray) : mtx 0 O = O := by rw [mtx]; simp
theorem mtx_step {n : Nat} (h : ¬ n = 0) (O : ByteArray) : mtx n O = mtx (n / 10) ((⟨#[UInt8.ofNat (48 + n % 10)]⟩ : ByteArray) ++ O) := by
  conv => lhs; rw [mtx]
  rw [dif_neg h]
def mt (n : Nat) : ByteArray := (⟨#[109]⟩ : ByteArray) ++ mtx n ⟨#[]⟩

theorem own_new (w : World) (c : UInt8) : (w.alloc (.cells #[.int .u8 (c.toNat : Int)] 5)).ownsRow w.heap.size 5 1 (.slice (some ⟨w.heap.size, 0, none⟩) 1 1) ([c] : List UInt8).length (([c] : List UInt8).map byteV) := by
  refine ⟨by simp, .inr ⟨w.heap.size, 1, #[.int .u8 (c.toNat : Int)], rfl, Nat.le_refl _, ?_, Nat.le_refl _, by decide, by simp, by simp [byteV]⟩⟩
  exact RowIs.new w #[.int .u8 (c.toNat : Int)] 5

set_option maxRecDepth 8000 in
set_option maxHeartbeats 1000000 in
theorem markText_any (K : Nat) (w : World) (h1 : 1 ≤ K) (h2 : K ≤ 4000000) :
    Calls Try.prog 42 #[.int .i64 K] w fun e w' => e = .returned (.string (mt K)) ∧ Below w.heap.size w w' := by
  have hk0 : ¬ (K : Int) ≤ 0 := by omega
  obtain ⟨M, hM⟩ : ∃ M, mtx K ⟨#[]⟩ = M := ⟨_, rfl⟩
  have HM := hide hM
  have hmt : mt K = (⟨#[109]⟩ : ByteArray) ++ M := by unfold mt; rw [hM]
  rw [hmt]
  clear hmt hM
  go_enter Try.func42, Try.ntmps42
  go_wp2_with fail
  go_loopw [0, 3] (fun q v w' => ∃ (n : Nat) (O : ByteArray), q = .int .i64 n ∧ v = .string O ∧ O.size + n ≤ 4000000 ∧ Hid (mtx n O = M) ∧ Hid (Below w.heap.size w w')) (fun q _ _ => (intOf q).toNat)
  case atStart => exact ⟨K, ⟨#[]⟩, rfl, rfl, by show 0 + K ≤ _; omega, HM, hide (Below.refl _ _)⟩
  case round =>
    obtain ⟨n, O, rfl, rfl, hz, hm, hb⟩ := hrel
    by_cases hn : n = 0
    · subst hn
      have eM := hide (show O = M by rw [← unhide hm, mtx_zero])
      have q1 : ¬ 9223372036854775806 < O.size := by omega
      have q2 : O.size ≤ 9223372036854775806 := by omega
      have q3 : ¬ 9223372036854775807 < 1 + O.size := by omega
      have q4 : 1 + O.size ≤ 9223372036854775807 := by omega
      go_wp2_with fail
      go_ret
      exact ⟨by rw [unhide eM]; rfl, unhide hb⟩
    · obtain ⟨c, hc⟩ : ∃ c, UInt8.ofNat (48 + n % 10) = c := ⟨_, rfl⟩
      have st := hide (show mtx (n / 10) ((⟨#[c]⟩ : ByteArray) ++ O) = M by rw [← unhide hm, mtx_step hn, hc])
      have hcc : (48 : Int) + (n : Int) % 10 = (c.toNat : Int) := by
        rw [← hc, UInt8.toNat_ofNat']
        omega
      have cv : (convert 69 9 (.slice (some ⟨wr.heap.size, 0, none⟩) 1 1)).run Try.prog (wr.alloc (.cells #[.int .u8 (c.toNat : Int)] 5)) = .ok (.string ⟨#[c]⟩) (wr.alloc (.cells #[.int .u8 (c.toNat : Int)] 5)) := conv_own (own_new wr c)
      have hp : (0 : Int) < (n : Int) := by omega
      have q1 : ¬ 9223372036854775806 < O.size := by omega
      have q2 : O.size ≤ 9223372036854775806 := by omega
      have q3 : ¬ 9223372036854775807 < 1 + O.size := by omega
      have q4 : 1 + O.size ≤ 9223372036854775807 := by omega
      have hlt : n / 10 < n := by omega
      have c256 := c.toNat_lt
      clear hc
      go_wp2_with fail
      refine ⟨⟨n / 10, (⟨#[c]⟩ : ByteArray) ++ O, ?_, rfl, ?_, st, hide (bAl (unhide hb) _)⟩, by simp [intOf]; omega⟩
      · rw [show (n : Int) / 10 = ((n / 10 : Nat) : Int) by omega]
      · rw [ByteArray.size_append]
        show 1 + O.size + n / 10 ≤ _
        omega

def MarkedP (C : Array Value) (n : Nat) : Prop := ∀ i, i < n → C[i * 2]? = some (.string (mt (1 + i * 2))) ∧ C[i * 2 + 1]? = some (.string (mt (1 + i * 2 + 1)))
/-- A slice of parts that was marked, and whose marks are held. -/
def MarksP (w : World) (v : Value) (n : Nat) : Prop := (v = .slice none 0 0 ∧ n = 0) ∨ ∃ g cap C, v = .slice (some ⟨g, 0, none⟩) n cap ∧ RowIs w g C 62 ∧ MarkedP C n
theorem MarksP.keep {w w' : World} {v : Value} {n : Nat} (h : MarksP w v n) (hb : Below w.heap.size w w') : MarksP w' v n :=
  h.imp_right fun ⟨g, cap, C, e, r, m⟩ => ⟨g, cap, C, e, r.keep hb, m⟩
theorem MarkedP.set {C : Array Value} {k : Nat} (h : MarkedP C k) (hs : k * 2 + 1 < C.size) : MarkedP ((C.setIfInBounds (k * 2) (.string (mt (1 + k * 2)))).setIfInBounds (k * 2 + 1) (.string (mt (1 + k * 2 + 1)))) (k + 1) := by
  intro i hi
  by_cases e : i = k
  · subst e
    have s0 : i * 2 < C.size := by omega
    simp [s0, hs]
  · have := h i (by omega)
    simp only [Array.getElem?_setIfInBounds]
    repeat rw [if_neg (by omega)]
    exact this

set_option maxRecDepth 8000 in
set_option maxHeartbeats 2000000 in
theorem markP_row (g n cap : Nat) (C0 : Array Value) (w : World) (hn : n ≤ 1000) (hC : n * 2 ≤ C0.size) (hr : RowIs w g C0 62) (base : Nat) (hB : base ≤ g) (hbw : base ≤ w.heap.size) :
    Calls Try.prog 18 #[.slice (some ⟨g, 0, none⟩) n cap, .int .i64 1] w fun e w' => e = .returned (.int .i64 (1 + n * 2 : Nat)) ∧ (∃ C, RowIs w' g C 62 ∧ MarkedP C n) ∧ Below base w w' := by
  have HR := hide hr
  clear hr
  go_enter Try.func18, Try.ntmps18
  go_wp2_with fail
  go_loopw [1, 5] (fun q i w' => ∃ (k j : Nat) (C : Array Value), k ≤ n ∧ i = .int .i64 k ∧ q = .int .i64 j ∧ 1 ≤ j ∧ j ≤ 4000 ∧ Hid (j = 1 + k * 2) ∧ Hid (RowIs w' g C 62) ∧ Hid (n * 2 ≤ C.size) ∧ Hid (MarkedP C k) ∧ Hid (Below base w w')) (fun _ i _ => n - (intOf i).toNat)
  case atStart => exact ⟨0, 1, C0, Nat.zero_le _, rfl, rfl, Nat.le_refl _, by omega, hide rfl, HR, hide hC, hide (fun i h => absurd h (Nat.not_lt_zero _)), hide (Below.refl _ _)⟩
  case round =>
    obtain ⟨k, j, C, hk, rfl, rfl, hj1, hj2, hj, hR, hCs, hM, hb⟩ := hrel
    by_cases hlt : k < n
    · have qm1 := hide (fun w => markText_any j w (by omega) (by omega))
      have qm2 := hide (fun w => markText_any (j + 1) w (by omega) (by omega))
      have stM := hide ((unhide hM).set (by have := unhide hCs; omega))
      rw [← unhide hj] at stM
      have i0 : (0 : Int) ≤ (k : Int) := by omega
      have i1 : (k : Int) < (n : Int) := by omega
      have hbz := (unhide hb).size
      generalize mt j = X at qm1 stM
      generalize mt (j + 1) = Y at qm2 stM
      go_wp2_with fail
      refine (unhide qm1 _).mono ?_
      rintro e w1 ⟨rfl, hb1⟩
      have B1 := hide ((unhide hb).trans (Below.mono hb1 (by omega)))
      have R1 := hide ((unhide hR).keep hb1)
      clear hb1 qm1
      have s3 : k * 2 + 1 < C.size := by have := unhide hCs; omega
      have f0 := (unhide R1).froz (k * 2)
      have g0 := (unhide R1).cell (k * 2)
      rw [Array.getElem?_eq_getElem (by omega)] at g0
      generalize C[k * 2] = D0 at g0
      have R2 := hide ((unhide R1).set (k * 2) (.string X))
      have B2 := hide ((unhide B1).setCell (p := ⟨g, k * 2, none⟩) hB (.string X))
      have q2 : Hid (∀ w, Calls Try.prog 42 #[.int .i64 ((j : Int) + 1)] w fun e w' => e = .returned (.string Y) ∧ Below w.heap.size w w') := hide (fun w => by have := unhide qm2 w; rwa [Int.natCast_add] at this)
      clear qm2 R1 B1
      go_wp2_with fail
      refine (unhide q2 _).mono ?_
      rintro e w3 ⟨rfl, hb3⟩
      have B3 := hide ((unhide B2).trans (Below.mono hb3 (by have := (unhide B2).size; omega)))
      have R3 := hide ((unhide R2).keep hb3)
      clear hb3 q2 B2 R2
      have f1 := (unhide R3).froz (k * 2 + 1)
      have s4 : k * 2 + 1 < (C.setIfInBounds (k * 2) (.string X)).size := by simp; omega
      have g1 := (unhide R3).cell (k * 2 + 1)
      rw [Array.getElem?_eq_getElem s4] at g1
      generalize (C.setIfInBounds (k * 2) (.string X))[k * 2 + 1] = D1 at g1
      have R4 := hide ((unhide R3).set (k * 2 + 1) (.string Y))
      have B4 := hide ((unhide B3).setCell (p := ⟨g, k * 2 + 1, none⟩) hB (.string Y))
      clear f0 g0
      go_wp2_with fail
      exact ⟨⟨k + 1, j + 2, _, by omega, by go_num, by go_num, by omega, by have := unhide hj; omega, hide (by have := unhide hj; omega), R4, hide (by simp; exact unhide hCs), stM, B4⟩, by simp [intOf]; omega⟩
    · obtain rfl : k = n := by omega
      go_wp2_with fail
      go_ret
      exact ⟨by rw [unhide hj]; rfl, ⟨C, unhide hR, unhide hM⟩, unhide hb⟩

set_option maxRecDepth 8000 in
set_option maxHeartbeats 2000000 in
theorem heldP_row (g n cap : Nat) (C : Array Value) (w : World) (hn : n ≤ 1000) (hr : RowIs w g C 62) (hM : MarkedP C n) :
    Calls Try.prog 19 #[.slice (some ⟨g, 0, none⟩) n cap, .int .i64 1] w fun e w' => e = .returned (.int .i64 (1 + n * 2 : Nat)) ∧ Below w.heap.size w w' := by
  have HR := hide hr
  have HM := hide hM
  clear hr hM
  go_enter Try.func19, Try.ntmps19
  go_wp2_with fail
  go_loopw [1, 5] (fun q i w' => ∃ (k j : Nat), k ≤ n ∧ i = .int .i64 k ∧ q = .int .i64 j ∧ 1 ≤ j ∧ j ≤ 4000 ∧ Hid (j = 1 + k * 2) ∧ Hid (Below w.heap.size w w')) (fun _ i _ => n - (intOf i).toNat)
  case atStart => exact ⟨0, 1, Nat.zero_le _, rfl, rfl, Nat.le_refl _, by omega, hide rfl, hide (Below.refl _ _)⟩
  case round =>
    obtain ⟨k, j, hk, rfl, rfl, hj1, hj2, hj, hb⟩ := hrel
    by_cases hlt : k < n
    · have qm1 := hide (fun w => markText_any j w (by omega) (by omega))
      have qm2 := hide (fun w => markText_any (j + 1) w (by omega) (by omega))
      have mk := unhide HM k hlt
      rw [← unhide hj] at mk
      have hrw := (unhide HR).keep (unhide hb)
      have c0 := hrw.at mk.1
      have c1 := hrw.at mk.2
      have zr := hrw.lt
      have i0 : (0 : Int) ≤ (k : Int) := by omega
      have i1 : (k : Int) < (n : Int) := by omega
      clear hrw mk
      generalize mt j = X at qm1 c0
      generalize mt (j + 1) = Y at qm2 c1
      have ne : Nonempty (Kept wr) := ⟨⟨wr, Below.refl _ _⟩⟩
      have e0 := kept_cell zr c0
      have q2 : Hid (∀ w, Calls Try.prog 42 #[.int .i64 ((j : Int) + 1)] w fun e w' => e = .returned (.string Y) ∧ Below w.heap.size w w') := hide (fun w => by have := unhide qm2 w; rwa [Int.natCast_add] at this)
      clear qm2
      go_wp2_with fail
      refine wp_region_kept (by kernel_rfl) (by kernel_rfl) ?_
      repeat (first
        | go_big_quiet_step ((go_at_call 42; exact kept_call (unhide qm1 _)))
        | quiet_step ((go_at_call 42; exact kept_call (unhide qm1 _))))
      refine wpQuiet_nil ?_
      rintro _ ⟨q, rfl⟩
      clear ne e0
      obtain ⟨w3, hb3⟩ := q
      have c3 := cellB hb3 zr c1
      have z3 := Nat.lt_of_lt_of_le zr hb3.size
      have B3 := hide (bTr (unhide hb) hb3)
      clear c0 c1 zr
      have ne : Nonempty (Kept w3) := ⟨⟨w3, Below.refl _ _⟩⟩
      have e0 := kept_cell z3 c3
      go_wp2_with fail
      refine wp_region_kept (by kernel_rfl) (by kernel_rfl) ?_
      repeat (first
        | go_big_quiet_step ((go_at_call 42; exact kept_call (unhide q2 _)))
        | quiet_step ((go_at_call 42; exact kept_call (unhide q2 _))))
      refine wpQuiet_nil ?_
      rintro _ ⟨q, rfl⟩
      clear ne e0
      obtain ⟨w4, hb4⟩ := q
      have B4 := hide (bTr (unhide B3) hb4)
      go_wp2_with fail
      exact ⟨⟨k + 1, j + 2, by omega, by go_num, by go_num, by omega, by have := unhide hj; omega, hide (by have := unhide hj; omega), B4⟩, by simp [intOf]; omega⟩
    · obtain rfl : k = n := by omega
      go_wp2_with fail
      go_ret
      exact ⟨by rw [unhide hj]; rfl, unhide hb⟩
end Go.Proofs.Ythmjefmljcdpcaa
