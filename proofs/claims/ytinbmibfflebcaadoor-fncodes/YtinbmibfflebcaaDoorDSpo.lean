/- l1Cur.spoilt; DrawArmor, DrawUnarmor. -/
import Derived.Test.YtinbmibfflebcaaDoorDDrwS
import Derived.Test.YtinbmibfflebcaaDoorDArmS
import Derived.Test.YtinbmibfflebcaaDoorDIn
import Derived.Laws.IdiomStrings
import Derived.Deep.QuietTactic
import Derived.BigQuiet
namespace Go.Proofs.YtinbmibfflebcaaDoor.D
set_option maxRecDepth 20000
open Go.RowKit

theorem CurOk.dr {w : World} {b m : Nat} (h : CurOk w b m) (n : Nat) : CurOk (w.drewN n) b m := h.keep ⟨rfl, rfl, rfl, Nat.le_refl _, fun _ _ => rfl⟩
theorem one_size (c : UInt8) : (ByteArray.mk #[c]).size = 1 := rfl

set_option maxHeartbeats 2000000 in
theorem spoilt_cur (b m : Nat) (t wi : ByteArray) (w : World) (hm : m ≤ 700000) (ht : t.size ≤ 1000) (hw : 1 ≤ wi.size) (hw2 : wi.size ≤ 100) (hc : CurOk w b m) :
    Calls Tryd.prog 15 #[.pointer (some ⟨b, 0, none⟩), .string t, .string wi] w fun e w' => (∃ s : ByteArray, s.size ≤ t.size + 2 ∧ e = .returned (.string s)) ∧ CurOk w' b (m + 100) ∧ But b w w' := by
  have HC := hide hc
  have hblt := hc.lt
  clear hc
  go_enter Tryd.func15, Tryd.ntmps15
  go_wp2_with fail
  refine (pick_any b m 3 _ (by omega) (by omega) (by omega) (unhide HC)).mono ?_
  rintro e w1 ⟨⟨r, r0, r1, rfl⟩, hc1, hb1⟩
  obtain ⟨R, rfl⟩ := Int.eq_ofNat_of_zero_le r0
  have HC1 := hide hc1
  have B1 := hide hb1
  clear hc1 hb1 r0
  go_wp2_with fail
  go_loopw [1, 7] (fun v n w' => ∃ (k : Nat) (s : ByteArray), n = .int .i64 k ∧ v = .string s ∧ k ≤ 2 ∧ s.size + k ≤ t.size + 2 ∧ Hid (CurOk w' b (m + 2 + (2 - k) * 10)) ∧ Hid (But b w w')) (fun _ n _ => (intOf n).toNat)
  case atStart => exact ⟨R, t, rfl, rfl, by omega, by omega, hide ((unhide HC1).mono (by omega)), B1⟩
  case round =>
    obtain ⟨k, s, rfl, rfl, hk, hsz, hc, hb⟩ := hrel
    by_cases hz : k = 0
    · subst hz
      go_wp2_with fail
      go_ret
      exact ⟨⟨s, by omega, rfl⟩, (unhide hc).mono (by omega), unhide hb⟩
    by_cases hz2 : s.size = 0
    · go_wp2_with fail
      go_ret
      exact ⟨⟨s, by omega, rfl⟩, (unhide hc).mono (by omega), unhide hb⟩
    · go_wp2_with fail
      refine (pick_any b _ s.size _ (by omega) (by omega) (by omega) (unhide hc)).mono ?_
      rintro e w2 ⟨⟨q, q0, q1, rfl⟩, hc2, hb2⟩
      obtain ⟨Q, rfl⟩ := Int.eq_ofNat_of_zero_le q0
      have HC2 := hide hc2
      have B2 := hide ((unhide hb).trans hb2)
      clear hc2 hb2 q0 hc hb
      go_wp2_with fail
      refine (pick_any b _ wi.size _ (by omega) (by omega) (by omega) (unhide HC2)).mono ?_
      rintro e w3 ⟨⟨p, p0, p1, rfl⟩, hc3, hb3⟩
      obtain ⟨P, rfl⟩ := Int.eq_ofNat_of_zero_le p0
      have HC3 := hide hc3
      have B3 := hide ((unhide B2).trans hb3)
      have hP : P < wi.size := by omega
      clear hc3 hb3 p0 HC2 B2
      have cv : (convert 22 9 (.slice (some ⟨w3.heap.size, 0, none⟩) 1 1)).run Tryd.prog (w3.alloc (.cells #[.int .u8 (wi[P].toNat : Int)] 5)) = .ok (.string ⟨#[wi[P]]⟩) (w3.alloc (.cells #[.int .u8 (wi[P].toNat : Int)] 5)) :=
        conv_own (l := [wi[P]]) (own_row (base := w3.heap.size) (RowIs.new w3 _ 5) (Nat.le_refl _) (by unfold maxLen; simp))
      have HC4 := hide ((unhide HC3).alW (.cells #[.int .u8 (wi[P].toNat : Int)] 5))
      have B4 := hide ((unhide B3).al (.cells #[.int .u8 (wi[P].toNat : Int)] 5))
      go_wp2_with fail
      refine (pick_any b _ 3 _ (by omega) (by omega) (by omega) (unhide HC4)).mono ?_
      rintro e w5 ⟨⟨g, g0, g1, rfl⟩, hc5, hb5⟩
      have HC5 := hide hc5
      have B5 := hide ((unhide B4).trans hb5)
      clear hc5 hb5 HC4 B4 HC3 B3 cv
      have hg : g = 0 ∨ g = 1 ∨ g = 2 := by omega
      have hQ : Q < s.size := by omega
      rcases hg with rfl | rfl | rfl
      · go_wp2_with fail
        go_quiet (fail)
        go_wp2_with fail
        refine ⟨⟨k - 1, _, by simp only [Value.int.injEq, true_and]; omega, rfl, by omega, ?_, hide (((unhide HC5).dr nq).mono (by omega)), hide ((unhide B5).dr nq)⟩, by simp [intOf]; omega⟩
        simp only [ByteArray.size_append, ByteArray.size_extract, one_size]
        omega
      · go_wp2_with fail
        go_quiet (fail)
        go_wp2_with fail
        refine ⟨⟨k - 1, _, by simp only [Value.int.injEq, true_and]; omega, rfl, by omega, ?_, hide (((unhide HC5).dr nq).mono (by omega)), hide ((unhide B5).dr nq)⟩, by simp [intOf]; omega⟩
        simp only [ByteArray.size_append, ByteArray.size_extract, one_size]
        omega
      · go_wp2_with fail
        go_quiet (fail)
        go_wp2_with fail
        refine ⟨⟨k - 1, _, by simp only [Value.int.injEq, true_and]; omega, rfl, by omega, ?_, hide (((unhide HC5).dr nq).mono (by omega)), hide ((unhide B5).dr nq)⟩, by simp [intOf]; omega⟩
        simp only [ByteArray.size_append, ByteArray.size_extract]
        omega

end Go.Proofs.YtinbmibfflebcaaDoor.D
