/- laws.toDirChangeS with its block. -/
import Derived.Test.YtpdnimchmgbijaaQChL
namespace Go.Proofs.Ytpdnimchmgbijaa
open Go.RowKit

set_option maxHeartbeats 1000000 in
theorem toDirChangeS_own (a : Option Addr) (len cap : Nat) (l : List DcT) (w : World) (hl : len ≤ 1048576) (hs : SlC w a len l) :
    Calls Try.prog 6 #[.slice a len cap] w fun e w' => e = .returned (.slice (some ⟨w.heap.size, 0, none⟩) len len) ∧ (∃ C, RowIs w' w.heap.size C 46 ∧ C.size = len * 9 ∧ DcRow w' w.heap.size 0 l) ∧ Below w.heap.size w w' := by
  obtain ⟨w1, C1, hrun, hb1, hr1, hC1⟩ := make_changes len w hl
  have HS := hide hs
  have HB1 := hide hb1
  have HR1 := hide hr1
  clear hs hb1 hr1
  go_enter Try.func6, Try.ntmps6
  go_wp2
  clear hrun
  go_loopw [4] (fun i w' => ∃ (k : Nat) (C : Array Value), k ≤ len ∧ i = .int .i64 k ∧ Hid (Below w.heap.size w w') ∧ Hid (RowIs w' w.heap.size C 46) ∧ Hid (C.size = len * 9) ∧ Hid (FilledC C l k)) (fun i _ => len - (intOf i).toNat)
  case atStart => exact ⟨0, C1, Nat.zero_le _, rfl, HB1, HR1, hide hC1, hide (fun i _ h => absurd h (Nat.not_lt_zero _))⟩
  case round =>
    obtain ⟨k, C, hk, rfl, hb, hr, hC, hF⟩ := hrel
    by_cases hlt : k < len
    · obtain ⟨b, off, rfl, hrow⟩ := ((unhide HS).keep (unhide hb)).at hlt
      have hk' : k < l.length := by rw [← (unhide HS).1]; exact hlt
      have c0 := hrow.c0 k hk'
      have c1 := hrow.c1 k hk'
      have c2 := hrow.c2 k hk'
      have c3 := hrow.c3 k hk'
      have c4 := hrow.c4 k hk'
      have c5 := hrow.c5 k hk'
      have c6 := hrow.c6 k hk'
      have c7 := hrow.c7 k hk'
      have c8 := hrow.c8 k hk'
      have hF' := hide ((unhide hF).set hk' (by rw [unhide hC, (unhide HS).1]))
      clear hrow hC1
      generalize l[k] = A at c0 c1 c2 c3 c4 c5 c6 c7 c8 hF'
      go_wp2_with fail
      refine (toDirChange_any _ _ _ _ _ _ _ _ _ _).mono ?_
      rintro e w2 ⟨rfl, hb2⟩
      replace hr := hide ((unhide hr).keep hb2)
      replace hb := hide (bTr (unhide hb) hb2)
      have f0 := (unhide hr).froz (k * 9)
      have f1 := (unhide hr).froz (k * 9 + 1)
      have f2 := (unhide hr).froz (k * 9 + 2)
      have f3 := (unhide hr).froz (k * 9 + 3)
      have f4 := (unhide hr).froz (k * 9 + 4)
      have f5 := (unhide hr).froz (k * 9 + 5)
      have f6 := (unhide hr).froz (k * 9 + 6)
      have f7 := (unhide hr).froz (k * 9 + 7)
      have f8 := (unhide hr).froz (k * 9 + 8)
      have s3 : k * 9 + 8 < C.size := by rw [unhide hC]; omega
      have g0 := (unhide hr).cell (k * 9)
      have g1 := (unhide hr).cell (k * 9 + 1)
      have g2 := (unhide hr).cell (k * 9 + 2)
      have g3 := (unhide hr).cell (k * 9 + 3)
      have g4 := (unhide hr).cell (k * 9 + 4)
      have g5 := (unhide hr).cell (k * 9 + 5)
      have g6 := (unhide hr).cell (k * 9 + 6)
      have g7 := (unhide hr).cell (k * 9 + 7)
      have g8 := (unhide hr).cell (k * 9 + 8)
      rw [Array.getElem?_eq_getElem (by omega)] at g0 g1 g2 g3 g4 g5 g6 g7 g8
      generalize C[k * 9] = D0 at g0
      generalize C[k * 9 + 1] = D1 at g1
      generalize C[k * 9 + 2] = D2 at g2
      generalize C[k * 9 + 3] = D3 at g3
      generalize C[k * 9 + 4] = D4 at g4
      generalize C[k * 9 + 5] = D5 at g5
      generalize C[k * 9 + 6] = D6 at g6
      generalize C[k * 9 + 7] = D7 at g7
      generalize C[k * 9 + 8] = D8 at g8
      clear c0 c1 c2 c3 c4 c5 c6 c7 c8 hb2
      go_wp2_with fail
      refine ⟨⟨k + 1, set9 C k A, by omega, by go_num, hide ?_, hide ?_, hide (by rw [size_set9]; exact unhide hC), hF'⟩, by simp [intOf]; omega⟩
      · repeat refine bSet ?_ _ _ (Nat.le_refl _) _
        exact unhide hb
      · exact (((((((((unhide hr).set _ _).set _ _).set _ _).set _ _).set _ _).set _ _).set _ _).set _ _).set _ _
    · go_wp2_with fail
      go_ret
      have e : k = l.length := by rw [← (unhide HS).1]; omega
      exact ⟨rfl, ⟨C, unhide hr, unhide hC, FilledC.row (by rw [← e]; exact unhide hF) (unhide hr)⟩, unhide hb⟩
end Go.Proofs.Ytpdnimchmgbijaa
