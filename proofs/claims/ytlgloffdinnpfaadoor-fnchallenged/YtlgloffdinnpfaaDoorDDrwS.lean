/- Drawn bytes, secrets; spec.DrawSign. -/
import Derived.Test.YtlgloffdinnpfaaDoorDCur
import Derived.Test.YtlgloffdinnpfaaDoorDMac
namespace Go.Proofs.YtlgloffdinnpfaaDoor.D
set_option maxRecDepth 20000
open Go.RowKit

theorem CurOk.alW {w : World} {b m : Nat} (h : CurOk w b m) (o : Obj) : CurOk (w.alloc o) b m := h.keep (bAl (Below.refl _ _) o)
theorem But.thenBelow {b : Nat} {w x y : World} (h : But b w x) (k : Below w.heap.size x y) : But b w y :=
  ⟨k.os.trans h.os, k.tape.trans h.tape, k.output.trans h.output, Nat.le_trans h.size k.size, fun i hi hn => (k.block i hi).trans (h.block i hi hn)⟩
theorem CurOk.keepB {w w' : World} {b m B : Nat} (h : CurOk w b m) (hb : Below B w w') (hB : b < B) : CurOk w' b m := by
  obtain ⟨a, len, cap, k, seed, h1, h2, h3⟩ := h
  refine ⟨a, len, cap, k, seed, h1.keepB hb hB, h2, h3.1, ?_⟩
  rcases h3.2 with e | ⟨blk, off, e, q, n, r⟩
  · exact .inl e
  · refine .inr ⟨blk, off, e, Nat.lt_of_lt_of_le q hb.size, n, fun i hi => ?_⟩
    obtain ⟨x, g1, g2, g3⟩ := r i hi
    exact ⟨x, g1, g2, cellC hb (p := ⟨blk, off + i, none⟩) (by show blk < B; omega) g3⟩

set_option maxHeartbeats 1000000 in
theorem bytes_cur (b m most : Nat) (w : World) (hm : m ≤ 800000) (h1 : 1 ≤ most) (h2 : most ≤ 100) (hc : CurOk w b m) :
    Calls Tryd.prog 11 #[.pointer (some ⟨b, 0, none⟩), .int .i64 most] w fun e w' => (∃ (v : Value) (D : List UInt8), D.length ≤ most ∧ e = .returned v ∧ w'.ownsRow w.heap.size 5 1 v D.length (D.map byteV)) ∧ CurOk w' b (m + 200) ∧ But b w w' := by
  obtain ⟨i0, hi, hz0, hz1, hz2⟩ := info_parts info_u8
  have HC := hide hc
  have hblt := hc.lt
  clear hc
  go_enter Tryd.func11, Tryd.ntmps11
  go_wp2_with fail
  refine (pick_any b m most _ (by omega) (by omega) (by omega) (unhide HC)).mono ?_
  rintro e w1 ⟨⟨r, r0, r1, rfl⟩, hc1, hb1⟩
  obtain ⟨R, rfl⟩ := Int.eq_ofNat_of_zero_le r0
  have HC1 := hide hc1
  have B1 := hide hb1
  clear hc1 hb1 r0
  go_wp2_with fail
  go_loopw [5, 6] (fun v n w' => ∃ (k : Nat) (D : List UInt8), n = .int .i64 k ∧ D.length + k = R ∧ Hid (w'.ownsRow w.heap.size 5 1 v D.length (D.map byteV)) ∧ Hid (CurOk w' b (m + 2 + D.length)) ∧ Hid (But b w w')) (fun _ n _ => (intOf n).toNat)
  case atStart => exact ⟨R, [], rfl, by simp, hide (World.ownsRow_nil _ _ _ _), HC1, B1⟩
  case round =>
    obtain ⟨k, D, rfl, hk, ho, hc, hb⟩ := hrel
    by_cases hz : k = 0
    · subst hz
      go_wp2_with fail
      go_ret
      exact ⟨⟨_, D, by omega, rfl, unhide ho⟩, (unhide hc).mono (by omega), unhide hb⟩
    · go_wp2_with fail
      refine (next_any b (m + 2 + D.length) _ (by omega) (unhide hc)).mono ?_
      rintro e w2 ⟨⟨q, q0, q1, rfl⟩, hc2, hb2⟩
      obtain ⟨c, rfl⟩ : ∃ c : UInt8, q = (c.toNat : Int) := ⟨UInt8.ofNat q.toNat, by rw [UInt8.toNat_ofNat']; omega⟩
      have hu := c.toNat_lt
      have O2 := hide (own_but (unhide ho) hb2 hblt)
      have HC2 := hide hc2
      have B2 := hide ((unhide hb).trans hb2)
      have z2 := (unhide B2).size
      clear hc2 hb2
      go_wp2_with (at_builtin; refine wpList_append_own _ rfl _ _ 22 rfl w.heap.size 5 i0 (.int .u8 0) 1 1 Tryd.underlying22 hi hz0 hz1 hz2 rfl (by decide) _ _ _ rfl ((unhide O2).alloc _) ⟨_, 0, none⟩ 1 1 [byteV c] rfl rfl (cell_one_new _ _ _) (fun x hx => by simp at hx; subst hx; rfl) (by unfold maxLen; omega) (by omega) (by simp; omega) ?_; intro v' w3 hown3 hgrow3 _)
      have G := (Below.refl w.heap.size _).grown hgrow3 (by simp; omega) (fun j hj => ((unhide O2).lt j hj).1)
      exact ⟨⟨k - 1, D ++ [c], by simp only [Value.int.injEq, true_and]; omega, by simp; omega, hide (by simpa using hown3), hide ((((unhide HC2).alW _).keepB G hblt).mono (by simp; omega)), hide (((unhide B2).al _).thenBelow G)⟩, by simp [intOf]; omega⟩

set_option maxHeartbeats 1000000 in
theorem secret_cur (b m : Nat) (w : World) (hm : m ≤ 700000) (hc : CurOk w b m) :
    Calls Tryd.prog 9 #[.pointer (some ⟨b, 0, none⟩)] w fun e w' => (∃ s : Int, -1 ≤ s ∧ s ≤ 1073741794 ∧ e = .returned (.int .i64 s)) ∧ CurOk w' b (m + 10) ∧ But b w w' := by
  have HC := hide hc
  have hblt := hc.lt
  clear hc
  go_enter Tryd.func9, Tryd.ntmps9
  go_wp2_with fail
  refine (one_any b m 16 _ (by omega) (by omega) (by omega) (unhide HC)).mono ?_
  rintro e w1 ⟨⟨t, rfl⟩, hc1, hb1⟩
  have HC1 := hide hc1
  have B1 := hide hb1
  have hblt1 := hc1.lt
  clear hc1 hb1
  cases t
  · go_wp2_with fail
    refine (pick_any b (m + 2) 60000 _ (by omega) (by omega) (by omega) (unhide HC1)).mono ?_
    rintro e w2 ⟨⟨q, q0, q1, rfl⟩, hc2, hb2⟩
    have HC2 := hide hc2
    have B2 := hide ((unhide B1).trans hb2)
    clear hc2 hb2
    go_wp2_with fail
    refine (pick_any b (m + 4) 60000 _ (by omega) (by omega) (by omega) (unhide HC2)).mono ?_
    rintro e w3 ⟨⟨u, u0, u1, rfl⟩, hc3, hb3⟩
    have HC3 := hide hc3
    have B3 := hide ((unhide B2).trans hb3)
    clear hc3 hb3
    go_wp2_with fail
    go_ret
    exact ⟨⟨_, by omega, by omega, rfl⟩, (unhide HC3).mono (by omega), unhide B3⟩
  · have RA := hide (RowIs.new w1 #[.int .i64 0, .int .i64 (-1), .int .i64 1, .int .i64 1073741788, .int .i64 1073741789, .int .i64 1073741794] 3)
    have HC1a := hide ((unhide HC1).alW (.cells #[.int .i64 0, .int .i64 (-1), .int .i64 1, .int .i64 1073741788, .int .i64 1073741789, .int .i64 1073741794] 3))
    have B1a := hide ((unhide B1).al (.cells #[.int .i64 0, .int .i64 (-1), .int .i64 1, .int .i64 1073741788, .int .i64 1073741789, .int .i64 1073741794] 3))
    go_wp2_with fail
    refine (pick_any b (m + 2) 6 _ (by omega) (by omega) (by omega) (unhide HC1a)).mono ?_
    rintro e w2 ⟨⟨q, q0, q1, rfl⟩, hc2, hb2⟩
    have HC2 := hide hc2
    have B2 := hide ((unhide B1a).trans hb2)
    obtain ⟨Q, rfl⟩ := Int.eq_ofNat_of_zero_le q0
    obtain ⟨s, s0, s1, hs⟩ : ∃ s : Int, -1 ≤ s ∧ s ≤ 1073741794 ∧ w2.cell? ⟨w1.heap.size, Q, none⟩ = some (.int .i64 s) := by
      have hrow := hb2.row (unhide RA) (by omega)
      have hc : Q = 0 ∨ Q = 1 ∨ Q = 2 ∨ Q = 3 ∨ Q = 4 ∨ Q = 5 := by omega
      rcases hc with rfl | rfl | rfl | rfl | rfl | rfl
      · exact ⟨_, by omega, by omega, hrow.at rfl⟩
      · exact ⟨_, by omega, by omega, hrow.at rfl⟩
      · exact ⟨_, by omega, by omega, hrow.at rfl⟩
      · exact ⟨_, by omega, by omega, hrow.at rfl⟩
      · exact ⟨_, by omega, by omega, hrow.at rfl⟩
      · exact ⟨_, by omega, by omega, hrow.at rfl⟩
    clear hc2 hb2
    go_wp2_with fail
    go_ret
    exact ⟨⟨s, s0, s1, rfl⟩, (unhide HC2).mono (by omega), unhide B2⟩

end Go.Proofs.YtlgloffdinnpfaaDoor.D
