/- FnChallenged: its drawer. -/
import Derived.Test.YtlgloffdinnpfaaDoorKAe
import Derived.Test.YtlgloffdinnpfaaDoorDDrwS
import Derived.Deep.RegionWith
namespace Go.Proofs.YtlgloffdinnpfaaDoor.D
set_option maxRecDepth 20000
open Go.RowKit

theorem results_tmp4 {fn : Func} {t u v x : Tmp} (h : fn.results = #[.tmp t, .tmp u, .tmp v, .tmp x]) (tmps : Array Value) (P : Program) (w : World) :
    (results fn tmps).run P w = .ok (.tuple #[tmps.getD t undef, tmps.getD u undef, tmps.getD v undef, tmps.getD x undef]) w := by
  simp [results, h]
/-- What a drawer keeps: the secret that was drawn, its cursor. -/
structure DSt (w : World) (m : Nat) (a : Option Addr) (ln cap : Nat) (D : List UInt8) (w' : World) : Prop where
  own : w'.ownsRow (w.heap.size + 1) 5 1 (.slice a ln cap) D.length (D.map byteV)
  cur : CurOk w' w.heap.size m
  but : But w.heap.size w w'
theorem DSt.step {w : World} {m m' : Nat} {a : Option Addr} {ln cap : Nat} {D : List UInt8} {w1 w2 : World} (h : DSt w m a ln cap D w1) (hc : CurOk w2 w.heap.size m') (hb : But w.heap.size w1 w2) : DSt w m' a ln cap D w2 :=
  ⟨own_but h.own hb (by omega), hc, h.but.trans hb⟩
theorem DSt.keep {w : World} {m : Nat} {a : Option Addr} {ln cap : Nat} {D : List UInt8} {w1 w2 : World} (h : DSt w m a ln cap D w1) (hb : Below w1.heap.size w1 w2) : DSt w m a ln cap D w2 :=
  ⟨own_keep h.own hb, h.cur.keep hb, h.but.trans (But.of hb)⟩
theorem DSt.al {w : World} {m : Nat} {a : Option Addr} {ln cap : Nat} {D : List UInt8} {w1 : World} (h : DSt w m a ln cap D w1) (o : Obj) : DSt w m a ln cap D (w1.alloc o) := h.keep (bAl (Below.refl _ _) o)
theorem DSt.sl {w : World} {m : Nat} {a : Option Addr} {ln cap : Nat} {D : List UInt8} {w1 : World} (h : DSt w m a ln cap D w1) : SlB w1 w1.heap.size a ln D := by
  obtain ⟨a', cap', e, hs⟩ := own_sl h.own
  simp only [Value.slice.injEq] at e
  obtain ⟨rfl, e2, rfl⟩ := e
  rw [e2]; exact hs
theorem DSt.dr {w : World} {m : Nat} {a : Option Addr} {ln cap : Nat} {D : List UInt8} {w1 : World} (h : DSt w m a ln cap D w1) (n : Nat) : DSt w m a ln cap D (w1.drewN n) := h.keep ⟨rfl, rfl, rfl, Nat.le_refl _, fun _ _ => rfl⟩
theorem four_cell {w : World} {b Q : Nat} {n : Int} (h : RowIs w b #[.int .i64 n, .int .i64 (-1), .int .i64 1000000000, .int .i64 1000000001] 3) (n0 : 0 ≤ n) (n1 : n < 300) (hQ : Q < 4) : ∃ s : Int, -1 ≤ s ∧ s ≤ 1000000001 ∧ w.cell? ⟨b, Q, none⟩ = some (.int .i64 s) := by
  have hq : Q = 0 ∨ Q = 1 ∨ Q = 2 ∨ Q = 3 := by omega
  rcases hq with rfl | rfl | rfl | rfl <;> exact ⟨_, by omega, by omega, h.at rfl⟩
set_option maxHeartbeats 1000000 in
theorem of_cur3 (b m g : Nat) (x y z : ByteArray) (w : World) (hm : m ≤ 700000) (hr : RowIs w g #[.string x, .string y, .string z] 9) (hg : g ≠ b) (hc : CurOk w b m) :
    Calls Tryd.prog 10 #[.pointer (some ⟨b, 0, none⟩), .slice (some ⟨g, 0, none⟩) 3 3] w fun e w' => (∃ s : ByteArray, (s = x ∨ s = y ∨ s = z) ∧ e = .returned (.string s)) ∧ CurOk w' b (m + 2) ∧ But b w w' := by
  have HC := hide hc
  have HR := hide hr
  clear hc hr
  go_enter Tryd.func10, Tryd.ntmps10
  go_wp2_with fail
  refine (pick_any b m 3 _ (by omega) (by omega) (by omega) (unhide HC)).mono ?_
  rintro e w1 ⟨⟨q, q0, q1, rfl⟩, hc1, hb1⟩
  obtain ⟨Q, rfl⟩ := Int.eq_ofNat_of_zero_le q0
  have hrow := hb1.row (unhide HR) hg
  have zq := hrow.lt
  have HC1 := hide hc1
  have B1 := hide hb1
  clear hc1 hb1
  obtain ⟨s, hs, hcell⟩ : ∃ s : ByteArray, (s = x ∨ s = y ∨ s = z) ∧ w1.cell? ⟨g, Q, none⟩ = some (.string s) := by
    have hq : Q = 0 ∨ Q = 1 ∨ Q = 2 := by omega
    rcases hq with rfl | rfl | rfl
    · exact ⟨x, .inl rfl, hrow.at rfl⟩
    · exact ⟨y, .inr (.inl rfl), hrow.at rfl⟩
    · exact ⟨z, .inr (.inr rfl), hrow.at rfl⟩
  have Hs := hide hs
  clear hrow hs
  go_wp2_with fail
  go_ret
  exact ⟨⟨s, unhide Hs, rfl⟩, unhide HC1, unhide B1⟩
theorem rare_cur (b m : Nat) (n : Int) (w : World) (hm : m ≤ 700000) (h1 : 2 ≤ n) (h2 : n ≤ 1000) (hc : CurOk w b m) :
    Calls Tryd.prog 14 #[.pointer (some ⟨b, 0, none⟩), .int .i64 n] w fun e w' => (∃ r : Int, 0 ≤ r ∧ r < n ∧ e = .returned (.int .i64 r)) ∧ CurOk w' b (m + 4) ∧ But b w w' := by
  have HC := hide hc
  clear hc
  go_enter Tryd.func14, Tryd.ntmps14
  go_wp2_with fail
  refine (one_any b m 8 _ (by omega) (by omega) (by omega) (unhide HC)).mono ?_
  rintro e w1 ⟨⟨t, rfl⟩, hc1, hb1⟩
  have HC1 := hide hc1
  have B1 := hide hb1
  clear hc1 hb1
  cases t
  · go_wp2_with fail
    go_ret
    exact ⟨⟨0, by omega, by omega, rfl⟩, (unhide HC1).mono (by omega), unhide B1⟩
  · go_wp2_with fail
    refine (pick_any b (m + 2) (n - 1) _ (by omega) (by omega) (by omega) (unhide HC1)).mono ?_
    rintro e w2 ⟨⟨q, q0, q1, rfl⟩, hc2, hb2⟩
    have HC2 := hide hc2
    have B2 := hide ((unhide B1).trans hb2)
    clear hc2 hb2
    go_wp2_with fail
    go_ret
    exact ⟨⟨_, by omega, by omega, rfl⟩, (unhide HC2).mono (by omega), unhide B2⟩
set_option maxHeartbeats 4000000 in
theorem drawAnswerChallenge_any (a : Option Addr) (len cap : Nat) (w : World) (hc : CodeAt w w.heap.size a len) :
    Calls Tryd.prog 4 #[.slice a len cap] w fun e w' => ∃ (s : Int) (o : ByteArray) (a' : Option Addr) (ln cap' : Nat) (D : List UInt8) (n : Int), -1 ≤ s ∧ s ≤ 1073741794 ∧ o.size ≤ 17 ∧ ln ≤ 101 ∧ -1 ≤ n ∧ n ≤ 1000000001 ∧ e = .returned (.tuple #[.int .i64 s, .string o, .slice a' ln cap', .int .i64 n]) ∧ SlB w' w'.heap.size a' ln D ∧ Below w.heap.size w w' := by
  have RA := hide (RowIs.new w #[.slice a len cap, .int .i64 0, .int .u64 0] 39)
  have hA1 := hide (show (w.alloc (.cells #[.slice a len cap, .int .i64 0, .int .u64 0] 39)).heap.size = w.heap.size + 1 by simp)
  have CU := hide (show CurOk (w.alloc (.cells #[.slice a len cap, .int .i64 0, .int .u64 0] 39)) w.heap.size 0 from ⟨a, len, cap, 0, 0, unhide RA, Nat.le_refl _, hc.keep (But.of (bAl (Below.refl _ _) _))⟩)
  have BA := hide ((But.refl w.heap.size w).al (.cells #[.slice a len cap, .int .i64 0, .int .u64 0] 39))
  clear hc
  go_enter Tryd.func4, Tryd.ntmps4
  go_wp2_with fail
  refine (secret_cur w.heap.size 0 _ (by omega) (unhide CU)).mono ?_
  rintro e w1 ⟨⟨s, s0, s1, rfl⟩, hc1, hb1⟩
  have z1 := hb1.size
  rw [unhide hA1] at z1
  have HC1 := hide hc1
  have B1 := hide ((unhide BA).trans hb1)
  clear hc1 hb1 RA CU BA hA1
  have HC1a := hide ((unhide HC1).alW (.cells #[.string ⟨#[104, 116, 116, 112, 115, 58, 47, 47, 97, 46, 101, 120, 97, 109, 112, 108, 101]⟩, .string ⟨#[120]⟩, .string ⟨#[]⟩] 9))
  have RB := hide (RowIs.new w1 #[.string ⟨#[104, 116, 116, 112, 115, 58, 47, 47, 97, 46, 101, 120, 97, 109, 112, 108, 101]⟩, .string ⟨#[120]⟩, .string ⟨#[]⟩] 9)
  have B1a := hide ((unhide B1).al (.cells #[.string ⟨#[104, 116, 116, 112, 115, 58, 47, 47, 97, 46, 101, 120, 97, 109, 112, 108, 101]⟩, .string ⟨#[120]⟩, .string ⟨#[]⟩] 9))
  go_wp2_with fail
  refine (of_cur3 w.heap.size _ w1.heap.size _ _ _ _ (by omega) (unhide RB) (by omega) (unhide HC1a)).mono ?_
  rintro e w2 ⟨⟨o, ho, rfl⟩, hc2, hb2⟩
  have oz : o.size ≤ 17 := by rcases ho with rfl | rfl | rfl <;> decide
  have HC2 := hide hc2
  have B2 := hide ((unhide B1a).trans hb2)
  have z2 := (unhide B2).size
  have z2' := hb2.size
  simp only [World.size_alloc] at z2'
  clear hc2 hb2 ho RB HC1a B1a HC1 B1
  go_wp2_with fail
  refine (bytes_cur w.heap.size _ 12 _ (by omega) (by omega) (by omega) (unhide HC2)).mono ?_
  rintro e w3 ⟨⟨v, D, hD, rfl, ho⟩, hc, hb⟩
  obtain ⟨sa, sc, rfl, _⟩ := own_sl ho
  have S3 := hide (show DSt w _ sa D.length sc D w3 from ⟨own_mono ho (by omega), hc, (unhide B2).trans hb⟩)
  clear hc hb ho HC2 B2
  generalize D.length = ln at hD S3 ⊢
  go_wp2_with fail
  refine (one_any w.heap.size _ 20 _ (by omega) (by omega) (by omega) (unhide S3).cur).mono ?_
  rintro e w4 ⟨⟨b1, rfl⟩, hc, hb⟩
  have S4 := hide ((unhide S3).step hc hb)
  clear hc hb S3
  cases b1
  · go_wp2_with fail
    go_region_with (first
      | (go_at_call 13; refine (pick_any w.heap.size _ 300 _ (by omega) (by omega) (by omega) ((unhide S4).dr _).cur).mono ?_; rintro e u1 ⟨⟨n, n0, n1, rfl⟩, hc, hb⟩; have U1 := hide (((unhide S4).dr _).step hc hb); have hblt := hc.lt; clear hc hb)
      | (go_at_call 14; refine (rare_cur w.heap.size _ 4 _ (by omega) (by omega) (by omega) ((unhide U1).al (.cells #[.int .i64 n, .int .i64 (-1), .int .i64 1000000000, .int .i64 1000000001] 3)).cur).mono ?_; rintro e u2 ⟨⟨r, r0, r1, rfl⟩, hc, hb⟩; have U2 := hide (((unhide U1).al (.cells #[.int .i64 n, .int .i64 (-1), .int .i64 1000000000, .int .i64 1000000001] 3)).step hc hb); obtain ⟨R, rfl⟩ := Int.eq_ofNat_of_zero_le r0; obtain ⟨N, N0, N1, hx⟩ := four_cell (hb.row (RowIs.new u1 #[.int .i64 n, .int .i64 (-1), .int .i64 1000000000, .int .i64 1000000001] 3) (by omega)) n0 n1 (Q := R) (by omega); clear hc hb)
      | (go_at_call 14; refine (rare_cur w.heap.size _ 4 _ (by omega) (by omega) (by omega) (unhide U1).cur).mono ?_; rintro e u2 ⟨⟨r, r0, r1, rfl⟩, hc, hb⟩; have U2 := hide (((unhide U1).step hc hb).al (.cells #[.int .i64 n, .int .i64 (-1), .int .i64 1000000000, .int .i64 1000000001] 3)); obtain ⟨R, rfl⟩ := Int.eq_ofNat_of_zero_le r0; obtain ⟨N, N0, N1, hx⟩ := four_cell (RowIs.new u2 #[.int .i64 n, .int .i64 (-1), .int .i64 1000000000, .int .i64 1000000001] 3) n0 n1 (Q := R) (by omega); clear hc hb))
    all_goals
      go_wp2_with fail
      ((try simp only [Exit.inBlock, Exit.then]); refine bodyPost_ret (results_tmp4 rfl _ _ _) rfl ?_)
      exact ⟨s, o, _, _, _, _, N, s0, s1, by omega, by omega, N0, N1, rfl, (unhide U2).sl, (unhide U2).but.below (Nat.le_refl _) (Nat.le_refl _)⟩
  · go_wp2_with fail
    refine (pick_any w.heap.size _ 3 _ (by omega) (by omega) (by omega) (unhide S4).cur).mono ?_
    rintro e w5 ⟨⟨g, g0, g1, rfl⟩, hc, hb⟩
    obtain ⟨G, rfl⟩ := Int.eq_ofNat_of_zero_le g0
    have S5 := hide ((unhide S4).step hc hb)
    clear hc hb S4
    obtain ⟨w6, hrun, hb6, hr6⟩ := make_bytes (99 + G) w5 (by omega)
    have hmk : ((99 + G : Nat) : Int) = 99 + (G : Int) := by simp
    rw [hmk] at hrun
    have hl : (List.replicate (99 + G) (0 : UInt8)).length = 99 + G := List.length_replicate
    have z5 := (unhide S5).cur.lt
    have O6 := own_row (base := w.heap.size + 1) hr6 (by omega) (by rw [hl]; unfold maxLen; omega)
    have S6 := hide (show DSt w _ (some ⟨w5.heap.size, 0, none⟩) (99 + G) (99 + G) (List.replicate (99 + G) 0) w6 from ⟨by rw [hl] at O6 ⊢; exact O6, (unhide S5).cur.keep hb6, (unhide S5).but.trans (But.of hb6)⟩)
    clear hb6 hr6 hmk O6 hl
    go_wp2_with fail
    go_region_with (first
      | (go_at_call 13; refine (pick_any w.heap.size _ 300 _ (by omega) (by omega) (by omega) ((unhide S6).dr _).cur).mono ?_; rintro e u1 ⟨⟨n, n0, n1, rfl⟩, hc, hb⟩; have U1 := hide (((unhide S6).dr _).step hc hb); have hblt := hc.lt; clear hc hb)
      | (go_at_call 14; refine (rare_cur w.heap.size _ 4 _ (by omega) (by omega) (by omega) ((unhide U1).al (.cells #[.int .i64 n, .int .i64 (-1), .int .i64 1000000000, .int .i64 1000000001] 3)).cur).mono ?_; rintro e u2 ⟨⟨r, r0, r1, rfl⟩, hc, hb⟩; have U2 := hide (((unhide U1).al (.cells #[.int .i64 n, .int .i64 (-1), .int .i64 1000000000, .int .i64 1000000001] 3)).step hc hb); obtain ⟨R, rfl⟩ := Int.eq_ofNat_of_zero_le r0; obtain ⟨N, N0, N1, hx⟩ := four_cell (hb.row (RowIs.new u1 #[.int .i64 n, .int .i64 (-1), .int .i64 1000000000, .int .i64 1000000001] 3) (by omega)) n0 n1 (Q := R) (by omega); clear hc hb)
      | (go_at_call 14; refine (rare_cur w.heap.size _ 4 _ (by omega) (by omega) (by omega) (unhide U1).cur).mono ?_; rintro e u2 ⟨⟨r, r0, r1, rfl⟩, hc, hb⟩; have U2 := hide (((unhide U1).step hc hb).al (.cells #[.int .i64 n, .int .i64 (-1), .int .i64 1000000000, .int .i64 1000000001] 3)); obtain ⟨R, rfl⟩ := Int.eq_ofNat_of_zero_le r0; obtain ⟨N, N0, N1, hx⟩ := four_cell (RowIs.new u2 #[.int .i64 n, .int .i64 (-1), .int .i64 1000000000, .int .i64 1000000001] 3) n0 n1 (Q := R) (by omega); clear hc hb))
    all_goals
      go_wp2_with fail
      ((try simp only [Exit.inBlock, Exit.then]); refine bodyPost_ret (results_tmp4 rfl _ _ _) rfl ?_)
      exact ⟨s, o, _, _, _, _, N, s0, s1, by omega, by omega, N0, N1, rfl, (unhide U2).sl, (unhide U2).but.below (Nat.le_refl _) (Nat.le_refl _)⟩
end Go.Proofs.YtlgloffdinnpfaaDoor.D
