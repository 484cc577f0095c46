/- spec.GoodLog. -/
import Derived.Test.YtpdnimchmgbijaaQChG
import Derived.Test.YtpdnimchmgbijaaQChSA
namespace Go.Proofs.Ytpdnimchmgbijaa
open Go.RowKit

set_option maxHeartbeats 2000000 in
theorem sGoodLog_any (a : Option Addr) (len cap : Nat) (l : List DcT) (w : World) (hl : len ≤ maxLen) (hs : SlC w a len l) (hok : ∀ q ∈ l, DcT.Ok q) :
    Calls Try.prog 12 #[.slice a len cap] w fun e w' => RetB e (LogG l) ∧ Below w.heap.size w w' := by
  have hG : Hid (LogG l ↔ (len ≤ 200 ∧ l.all chB = true ∧ RisC l l.length)) := hide (by unfold LogG; rw [hs.1])
  generalize LogG l = G at hG
  unfold maxLen at hl
  by_cases g1 : 200 < len
  · have no : Hid (¬ G) := hide (fun h => by have := ((unhide hG).1 h).1; omega)
    have d2 : decide (200 < (len : Int)) = true := by simp; omega
    go_enter Try.func12, Try.ntmps12
    go_wp2_with fail
    go_ret
    exact ⟨retB ⟨fun h => (by cases h), fun h => absurd h (unhide no)⟩, Below.refl _ _⟩
  have d2 : decide (200 < (len : Int)) = false := by simp; omega
  replace hG : Hid (G ↔ (l.all chB = true ∧ RisC l l.length)) := hide ⟨fun h => ((unhide hG).1 h).2, fun h => (unhide hG).2 ⟨by omega, h⟩⟩
  have HS := hide hs
  have HO := hide hok
  clear hs hok
  go_enter Try.func12, Try.ntmps12
  go_wp2_with fail
  go_loopw [10] (fun i w' => ∃ k : Nat, k ≤ len ∧ i = .int .i64 k ∧ Hid ((l.take k).all chB = true) ∧ Hid (RisC l k) ∧ Hid (Below w.heap.size w w')) (fun i _ => len - (intOf i).toNat)
  case atStart => exact ⟨0, Nat.zero_le _, rfl, hide rfl, hide (fun i _ _ h => absurd h (Nat.not_lt_zero _)), hide (Below.refl _ _)⟩
  case round =>
    obtain ⟨k, hk, rfl, ha, hris, hb⟩ := hrel
    by_cases hlt : k < len
    · obtain ⟨b, off, rfl, hrow⟩ := ((unhide HS).keep (unhide hb)).at hlt
      have hk' : k < l.length := by rw [← (unhide HS).1]; exact hlt
      have c0 := hrow.c0 k hk'
      have c1 := hrow.c1 k hk'
      have c2 := hrow.c2 k hk'
      have c3 := hrow.c3 k hk'
      have c4 := hrow.c4 k hk'
      have c5 := hrow.c5 k hk'
      have c6 := hrow.c6 k hk'
      have c7 := hrow.c7 k hk'
      have c8 := hrow.c8 k hk'
      have pj0 := hrow.c0 (k - 1) (by omega)
      have pj1 := hrow.c1 (k - 1) (by omega)
      have zj := hrow.z
      have ho := unhide HO _ (List.getElem_mem hk')
      have qg := hide (show ∀ w, Calls Try.prog 25 #[.agg #[.int .i64 (l[k]'hk').t, .int .i64 (l[k]'hk').o, .int .i64 (l[k]'hk').k, .int .i64 (l[k]'hk').u, .int .i64 (l[k]'hk').p, .string (l[k]'hk').pa, .string (l[k]'hk').pt, .string (l[k]'hk').a, .string (l[k]'hk').x]] w fun e w' => e = .returned (.bool (chB (l[k]'hk'))) ∧ Below w.heap.size w w' from fun w => sGoodChange_any _ _ _ _ _ _ _ _ _ w ho.pa9 ho.pt9 ho.a9 ho.x9)
      have qc := hide (fun w => l4Cmp_any (l[k - 1]'(by omega)).t (l[k - 1]'(by omega)).o (l[k]'hk').t (l[k]'hk').o w)
      have eT := hide (dcs_snoc hk')
      have noT := hide (show G → chB (l[k]'hk') = true from fun h => by
        cases hh : chB (l[k]'hk')
        · have h1 := ((unhide hG).1 h).1; rw [dcs_no hk' hh] at h1; exact h1
        · rfl)
      have stR := hide (show (0 < k → cmpS (l[k - 1]'(by omega)).t (l[k - 1]'(by omega)).o (l[k]'hk').t (l[k]'hk').o < 0) → RisC l (k + 1) from fun h => (unhide hris).step hk' h)
      have noR := hide (show G → 0 < k → cmpS (l[k - 1]'(by omega)).t (l[k - 1]'(by omega)).o (l[k]'hk').t (l[k]'hk').o < 0 from fun h h0 => ((unhide hG).1 h).2 k hk' h0 hk')
      obtain ⟨W0, hW0⟩ : ∃ W, W = wr.alloc (.cells #[.int .i64 (l[k]'hk').t, .int .i64 (l[k]'hk').o, .int .i64 (l[k]'hk').k, .int .i64 (l[k]'hk').u, .int .i64 (l[k]'hk').p, .string (l[k]'hk').pa, .string (l[k]'hk').pt, .string (l[k]'hk').a, .string (l[k]'hk').x] 46) := ⟨_, rfl⟩
      have HW0 := hide hW0
      obtain ⟨BX, hB⟩ : ∃ B, B = wr.heap.size := ⟨_, rfl⟩
      have HB := hide hB
      have RA : RowIs W0 BX #[.int .i64 (l[k]'hk').t, .int .i64 (l[k]'hk').o, .int .i64 (l[k]'hk').k, .int .i64 (l[k]'hk').u, .int .i64 (l[k]'hk').p, .string (l[k]'hk').pa, .string (l[k]'hk').pt, .string (l[k]'hk').a, .string (l[k]'hk').x] 46 := by rw [hW0, hB]; exact RowIs.new _ _ _
      have BW : Below wr.heap.size wr W0 := by rw [hW0]; exact bAl (Below.refl _ _) _
      have HBW := hide (bTr (unhide hb) BW)
      have hrow0 := hrow.keep BW
      clear hrow ho hW0 hB
      generalize l[k] = A at c0 c1 c2 c3 c4 c5 c6 c7 c8 qg qc eT noT stR noR HW0 RA
      generalize l[k - 1] = P at pj0 pj1 qc stR noR
      have zB := RA.lt
      have ne : Nonempty (Kept W0) := ⟨⟨W0, Below.refl _ _⟩⟩
      have f0 := kept_cell zB (RA.at (o := 0) (v := .int .i64 A.t) rfl)
      have f1 := kept_cell zB (RA.at (o := 1) (v := .int .i64 A.o) rfl)
      have f2 := kept_cell zB (RA.at (o := 2) (v := .int .i64 A.k) rfl)
      have f3 := kept_cell zB (RA.at (o := 3) (v := .int .i64 A.u) rfl)
      have f4 := kept_cell zB (RA.at (o := 4) (v := .int .i64 A.p) rfl)
      have f5 := kept_cell zB (RA.at (o := 5) (v := .string A.pa) rfl)
      have f6 := kept_cell zB (RA.at (o := 6) (v := .string A.pt) rfl)
      have f7 := kept_cell zB (RA.at (o := 7) (v := .string A.a) rfl)
      have f8 := kept_cell zB (RA.at (o := 8) (v := .string A.x) rfl)
      have g0 := kept_cell hrow0.z (cellB BW zj pj0)
      have g1 := kept_cell hrow0.z (cellB BW zj pj1)
      clear RA hrow0 zj pj0 pj1 zB BW
      generalize chB A = T1 at qg eT noT
      generalize cmpS P.t P.o A.t A.o = c at qc stR noR
      cases T1
      · have no : Hid (¬ G) := hide (fun h => by have := unhide noT h; cases this)
        clear stR noT noR eT
        have hk0 : 0 < k ∨ k = 0 := by omega
        go_wp2_with fail
        rw [← unhide HW0, ← unhide HB]
        refine wp_region_kept (by kernel_rfl) (by kernel_rfl) ?_
        repeat (first
          | go_big_quiet_step (first | (go_at_call 25; exact kept_call (unhide qg _)) | (go_at_call 26; exact kept_call (unhide qc _)))
          | quiet_step (first | (go_at_call 25; exact kept_call (unhide qg _)) | (go_at_call 26; exact kept_call (unhide qc _))))
        refine wpQuiet_nil ?_
        rintro _ ⟨q, rfl⟩
        go_wp2_with fail
        go_ret
        exact ⟨retB ⟨fun h => (by cases h), fun h => absurd h (unhide no)⟩, bTr (unhide HBW) q.h⟩
      have sT : Hid ((l.take (k + 1)).all chB = true) := hide (by rw [unhide eT, unhide ha]; rfl)
      clear eT noT
      by_cases hk0 : 0 < k
      case neg =>
        have sR := hide (unhide stR (fun h => absurd h hk0))
        have hk1 : ¬ (0 : Int) < (k : Int) := by omega
        clear stR noR g0 g1
        go_wp2_with fail
        rw [← unhide HW0, ← unhide HB]
        refine wp_region_kept (by kernel_rfl) (by kernel_rfl) ?_
        repeat (first
          | go_big_quiet_step (first | (go_at_call 25; exact kept_call (unhide qg _)) | (go_at_call 26; exact kept_call (unhide qc _)))
          | quiet_step (first | (go_at_call 25; exact kept_call (unhide qg _)) | (go_at_call 26; exact kept_call (unhide qc _))))
        refine wpQuiet_nil ?_
        rintro _ ⟨q, rfl⟩
        go_wp2_with fail
        exact ⟨⟨k + 1, by omega, by go_num, sT, sR, hide (bTr (unhide HBW) q.h)⟩, by simp [intOf]; omega⟩
      have hk1 : (0 : Int) < (k : Int) := by omega
      obtain ⟨J, hJ⟩ : ∃ J, k = J + 1 := ⟨k - 1, by omega⟩
      have eJ : k - 1 = J := by omega
      rw [eJ] at g0 g1
      have ej : IntKind.i64.wrap ((k : Int) - 1) = (J : Int) := by rw [IntKind.wrap_i64]; omega
      have i0 : (0 : Int) ≤ (J : Int) := by omega
      have i1 : (J : Int) < (len : Int) := by omega
      clear eJ hJ
      by_cases hc : c < 0
      case neg =>
        have no : Hid (¬ G) := hide (fun h => by have := unhide noR h hk0; omega)
        have dc : decide (0 ≤ c) = true := by simp; omega
        clear stR noR hc
        go_wp2_with fail
        rw [← unhide HW0, ← unhide HB]
        refine wp_region_kept (by kernel_rfl) (by kernel_rfl) ?_
        repeat (first
          | go_big_quiet_step (first | (go_at_call 25; exact kept_call (unhide qg _)) | (go_at_call 26; exact kept_call (unhide qc _)))
          | quiet_step (first | (go_at_call 25; exact kept_call (unhide qg _)) | (go_at_call 26; exact kept_call (unhide qc _))))
        refine wpQuiet_nil ?_
        rintro _ ⟨q, rfl⟩
        go_wp2_with fail
        go_ret
        exact ⟨retB ⟨fun h => (by cases h), fun h => absurd h (unhide no)⟩, bTr (unhide HBW) q.h⟩
      have sR := hide (unhide stR (fun _ => hc))
      have dc : decide (0 ≤ c) = false := by simp; omega
      clear stR noR hc
      go_wp2_with fail
      rw [← unhide HW0, ← unhide HB]
      refine wp_region_kept (by kernel_rfl) (by kernel_rfl) ?_
      repeat (first
        | go_big_quiet_step (first | (go_at_call 25; exact kept_call (unhide qg _)) | (go_at_call 26; exact kept_call (unhide qc _)))
        | quiet_step (first | (go_at_call 25; exact kept_call (unhide qg _)) | (go_at_call 26; exact kept_call (unhide qc _))))
      refine wpQuiet_nil ?_
      rintro _ ⟨q, rfl⟩
      go_wp2_with fail
      exact ⟨⟨k + 1, by omega, by go_num, sT, sR, hide (bTr (unhide HBW) q.h)⟩, by simp [intOf]; omega⟩
    · have e : k = l.length := by rw [← (unhide HS).1]; omega
      have yes : Hid G := hide ((unhide hG).2 ⟨by have := unhide ha; rw [e, List.take_length] at this; exact this, by have := unhide hris; rwa [e] at this⟩)
      clear e
      go_wp2_with fail
      go_ret
      exact ⟨retB (b := true) ⟨fun _ => unhide yes, fun _ => rfl⟩, unhide hb⟩
end Go.Proofs.Ytpdnimchmgbijaa
