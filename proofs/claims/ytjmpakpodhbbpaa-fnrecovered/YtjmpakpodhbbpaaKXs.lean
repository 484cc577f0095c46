/- spec.DrawRunRecovery. -/
import Derived.Test.YtjmpakpodhbbpaaKXr
import Derived.Test.YtjmpakpodhbbpaaKWr
import Derived.Deep.RegionHeld3
import Derived.Deep.RegionWith
namespace Go.Proofs.Ytjmpakpodhbbpaa.C
open Go.RowKit
set_option maxRecDepth 20000

def nBob : ByteArray := ⟨#[98, 111, 98]⟩
def nCy : ByteArray := ⟨#[99, 121]⟩
def nDan : ByteArray := ⟨#[100, 97, 110]⟩
def nEve : ByteArray := ⟨#[101, 118, 101]⟩
theorem four_row {w : World} {g : Nat} (h : RowIs w g #[.string ⟨#[98, 111, 98]⟩, .string ⟨#[99, 121]⟩, .string ⟨#[100, 97, 110]⟩, .string ⟨#[101, 118, 101]⟩] 9) : StrRow w g 0 [nBob, nCy, nDan, nEve] :=
  ⟨h.lt, fun i hi => by
    have h4 : i < 4 := by simpa using hi
    match i, h4 with
    | 0, _ => exact h.at rfl
    | 1, _ => exact h.at rfl
    | 2, _ => exact h.at rfl
    | 3, _ => exact h.at rfl⟩
theorem name_le {s : ByteArray} (h : s ∈ [nBob, nCy, nDan, nEve]) : s.size ≤ maxLen := by
  simp only [List.mem_cons, List.not_mem_nil, or_false] at h
  rcases h with rfl | rfl | rfl | rfl <;> decide
/-- What a drawn event is. -/
def DrE (y : RecoverEventT) : Prop := -10 ≤ y.f1 ∧ y.f1 ≤ 1000 ∧ y.f2.size ≤ maxLen ∧ 0 ≤ y.f0 ∧ y.f0 ≤ 4
/-- The state of the drawer. -/
structure DrR (w : World) (R : Nat) (k : Nat) (T : Int) (l : List RecoverEventT) (v : Value) (w' : World) : Prop where
  cnt : l.length + k = R
  t0 : 0 ≤ T
  t1 : T ≤ 6 * (l.length : Int)
  ev : ∀ y ∈ l, DrE y
  own : w'.ownsRow (w.heap.size + 2) 31 3 v l.length (RecoverEventsV l)
  hlp : RowIs w' (w.heap.size + 1) #[.string ⟨#[98, 111, 98]⟩, .string ⟨#[99, 121]⟩, .string ⟨#[100, 97, 110]⟩] 9
  cur : CurOk w' w.heap.size (10 + 20 * l.length)
  bel : Below w.heap.size w w'
theorem But.setNew {b z o : Nat} {w w' : World} (h : But b w w') (hz : w.heap.size ≤ z) (u : Value) : But b w (w'.setCell ⟨z, o, none⟩ u) :=
  ⟨h.os, h.tape, h.output, by simp [World.setCell]; exact h.size, fun k hk hn => by rw [heap_setCell_other w' ⟨z, o, none⟩ k u (by show k ≠ z; omega)]; exact h.block k hk hn⟩
theorem DrR.more {w wr Z w4 : World} {R k : Nat} {T T' : Int} {l : List RecoverEventT} {v u : Value} {y : RecoverEventT} {o : Obj} (h : DrR w R (k + 1) T l v wr) (hb : But w.heap.size wr Z) (hc : CurOk Z w.heap.size (10 + 20 * (l.length + 1))) (hy : DrE y) (ht : 0 ≤ T' ∧ T' ≤ T + 6)
    (hown : w4.ownsRow (w.heap.size + 2) 31 3 u (l.length + 1) (RecoverEventsV l ++ encRecoverEvent y)) (hg : (Z.alloc o).grownBy w4 v.ownBlock) : DrR w R k T' (l ++ [y]) u w4 := by
  have lt := h.own.lt
  have ba : Below Z.heap.size Z (Z.alloc o) := bAl (Below.refl _ _) o
  have hz := h.bel.size
  refine ⟨by have := h.cnt; simp; omega, ht.1, by have := h.t1; simp; omega, fun q hq => ?_, by rw [RecoverEventsV_snoc]; simpa using hown, ?_, ?_, ?_⟩
  · rcases List.mem_append.1 hq with h1 | h1
    · exact h.ev q h1
    · rw [List.mem_singleton.1 h1]; exact hy
  · exact row_grown ((hb.row h.hlp (by omega)).keep ba) hg (fun e => by have := (lt _ e.symm).1; omega)
  · have := (hc.keep ba).grown hg (fun g e => by have := (lt g e).1; omega)
    simpa using this
  · have hs := hb.size
    have ha := ba.size
    exact (h.bel.trans ((hb.below (Nat.le_refl _) hz).trans ⟨ba.os, ba.tape, ba.output, ba.size, fun g hgl => ba.block g (by omega)⟩)).trans ⟨hg.os, hg.tape, hg.output, hg.size, fun g hgl => hg.block g (by omega) (fun e => by have := (lt g e.symm).1; omega)⟩
theorem cell3 (w : World) (x y z : Value) (T : TypeId) {b : Nat} (hb : w.heap.size = b) : ∀ j u, ([x, y, z] : List Value)[j]? = some u → (w.alloc (.cells #[x, y, z] T)).cell? ((⟨b, 0, none⟩ : Addr).add j) = some u := by
  subst hb
  intro j u hj
  match j, hj with
  | 0, hj => simp at hj; subst hj; exact (RowIs.new w #[x, y, z] T).at rfl
  | 1, hj => simp at hj; subst hj; exact (RowIs.new w #[x, y, z] T).at rfl
  | 2, hj => simp at hj; subst hj; exact (RowIs.new w #[x, y, z] T).at rfl
  | j + 3, hj => simp at hj
theorem kinds_at (r : Nat) (h : r < 8) : ∃ k : Int, 0 ≤ k ∧ k ≤ 4 ∧ (#[.int .i64 1, .int .i64 2, .int .i64 2, .int .i64 2, .int .i64 4, .int .i64 4, .int .i64 3, .int .i64 0] : Array Value)[r]? = some (.int .i64 k) := by
  match r, h with
  | 0, _ => exact ⟨1, by omega, by omega, rfl⟩
  | 1, _ => exact ⟨2, by omega, by omega, rfl⟩
  | 2, _ => exact ⟨2, by omega, by omega, rfl⟩
  | 3, _ => exact ⟨2, by omega, by omega, rfl⟩
  | 4, _ => exact ⟨4, by omega, by omega, rfl⟩
  | 5, _ => exact ⟨4, by omega, by omega, rfl⟩
  | 6, _ => exact ⟨3, by omega, by omega, rfl⟩
  | 7, _ => exact ⟨0, by omega, by omega, rfl⟩
theorem four_int {w : World} {b Q : Nat} {n : Int} (h : RowIs w b #[.int .i64 n, .int .i64 0, .int .i64 10, .int .i64 11] 3) (hQ : Q < 4) : ∃ s : Int, w.cell? ⟨b, Q, none⟩ = some (.int .i64 s) := by
  have hq : Q = 0 ∨ Q = 1 ∨ Q = 2 ∨ Q = 3 := by omega
  rcases hq with rfl | rfl | rfl | rfl <;> exact ⟨_, h.at rfl⟩
theorem But.cellAt {b : Nat} {w : World} {z RR : Nat} {v : Value} (hz : z < w.heap.size) (hn : z ≠ b) (hx : w.cell? ⟨z, RR, none⟩ = some v) : ∀ u3, But b w u3 → u3.cell? ⟨z, RR, none⟩ = some v := fun _ hb => hb.cell (p := ⟨z, RR, none⟩) hz hn hx
theorem results_tmp4 {fn : Func} {t u v x : Tmp} (h : fn.results = #[.tmp t, .tmp u, .tmp v, .tmp x]) (tmps : Array Value) (P : Program) (w : World) :
    (results fn tmps).run P w = .ok (.tuple #[tmps.getD t undef, tmps.getD u undef, tmps.getD v undef, tmps.getD x undef]) w := by
  simp [results, h]
theorem drewB (w : World) : Below w.heap.size w w.drew := ⟨rfl, rfl, rfl, Nat.le_refl _, fun _ _ => rfl⟩
theorem some_le {l : List ByteArray} (h : l = [nBob, nCy, nDan] ∨ l = [nCy, nBob]) : ∀ q ∈ l, ByteArray.size q ≤ maxLen := by
  intro q hq
  refine name_le ?_
  rcases h with rfl | rfl
  · simp only [List.mem_cons, List.not_mem_nil, or_false] at hq ⊢
    rcases hq with h | h | h <;> simp [h]
  · simp only [List.mem_cons, List.not_mem_nil, or_false] at hq ⊢
    rcases hq with h | h <;> simp [h]
theorem three_sl {w : World} {g : Nat} (h : RowIs w g #[.string ⟨#[98, 111, 98]⟩, .string ⟨#[99, 121]⟩, .string ⟨#[100, 97, 110]⟩] 9) : V.SlS w (some ⟨g, 0, none⟩) 3 [nBob, nCy, nDan] :=
  ⟨rfl, .inr ⟨g, 0, rfl, ⟨h.lt, fun i hi => by
    have h4 : i < 3 := by simpa using hi
    match i, h4 with
    | 0, _ => exact h.at rfl
    | 1, _ => exact h.at rfl
    | 2, _ => exact h.at rfl⟩⟩⟩
theorem two_sl {w : World} {g : Nat} (h : RowIs w g #[.string ⟨#[99, 121]⟩, .string ⟨#[98, 111, 98]⟩] 9) : V.SlS w (some ⟨g, 0, none⟩) 2 [nCy, nBob] :=
  ⟨rfl, .inr ⟨g, 0, rfl, ⟨h.lt, fun i hi => by
    have h4 : i < 2 := by simpa using hi
    match i, h4 with
    | 0, _ => exact h.at rfl
    | 1, _ => exact h.at rfl⟩⟩⟩
set_option maxHeartbeats 4000000 in
theorem drawR_any (a : Option Addr) (len cap : Nat) (w : World) (hc : CodeAt w w.heap.size a len) :
    Calls Try.prog 4 #[.slice a len cap] w fun e w' => (∃ (need delay : Int) (v hv : Value) (l : List RecoverEventT) (H : List ByteArray), l.length ≤ 50 ∧ (∀ y ∈ l, DrE y) ∧ (0 ≤ delay ∧ delay ≤ 8) ∧ e = .returned (.tuple #[.int .i64 need, .int .i64 delay, hv, v]) ∧ w'.ownsRow (w.heap.size + 1) 31 3 v l.length (RecoverEventsV l) ∧ (∃ g n, hv = .slice (some ⟨g, 0, none⟩) n n ∧ n ≤ 10 ∧ V.SlS w' (some ⟨g, 0, none⟩) n H ∧ (∀ q ∈ H, ByteArray.size q ≤ maxLen))) ∧ Below w.heap.size w w' := by
  obtain ⟨i0, hi, hz⟩ := Option.map_eq_some_iff.1 info_RecoverEvent
  simp only [Prod.mk.injEq] at hz
  obtain ⟨hz0, hz1, hz2⟩ := hz
  have HI := hide (And.intro hi (And.intro hz0 (And.intro hz1 hz2)))
  obtain ⟨W, hW⟩ : ∃ W, W = w.alloc (.cells #[.slice a len cap, .int .i64 0, .int .u64 0] 36) := ⟨_, rfl⟩
  obtain ⟨W1, hW1⟩ : ∃ W', W' = W.alloc (.cells #[.string ⟨#[98, 111, 98]⟩, .string ⟨#[99, 121]⟩, .string ⟨#[100, 97, 110]⟩] 9) := ⟨_, rfl⟩
  have B0 : Below w.heap.size w W := by rw [hW]; exact bAl (Below.refl _ _) _
  have b1 : Below W.heap.size W W1 := by rw [hW1]; exact bAl (Below.refl _ _) _
  have z0 : W.heap.size = w.heap.size + 1 := by rw [hW]; simp
  have RH := hide (show RowIs W1 (w.heap.size + 1) #[.string ⟨#[98, 111, 98]⟩, .string ⟨#[99, 121]⟩, .string ⟨#[100, 97, 110]⟩] 9 by rw [hW1, ← z0]; exact RowIs.new _ _ _)
  have C0 : CurOk W w.heap.size 0 := ⟨a, len, cap, 0, 0, by rw [hW]; exact RowIs.new _ _ _, by omega, by
    refine ⟨hc.1, hc.2.imp_right ?_⟩
    rintro ⟨blk, off, e, q, n, r⟩
    refine ⟨blk, off, e, Nat.lt_of_lt_of_le q B0.size, n, fun i hi => ?_⟩
    obtain ⟨x, g1, g2, g3⟩ := r i hi
    exact ⟨x, g1, g2, by rw [B0.cell q]; exact g3⟩⟩
  have hlm := hc.1
  have HB := hide (bTr B0 b1)
  have HC := hide (C0.keep b1)
  rw [hW] at hW1
  have HW1 := hide hW1.symm
  clear hc B0 C0 hW hW1 b1 z0 hi hz0 hz1 hz2
  go_enter Try.func4, Try.ntmps4
  go_wp2_with fail
  rw [unhide HW1]
  refine (l1Many_any a len cap W1 hlm).mono ?_
  rintro e w1 ⟨⟨mn, hmn, rfl⟩, rfl⟩
  go_wp2_with fail
  refine (pick_any w.heap.size 0 (14 + (mn : Int)) W1 (by omega) (by omega) (by omega) (unhide HC)).mono ?_
  rintro e w2 ⟨⟨r, r0, r1, rfl⟩, hc2, hb2⟩
  obtain ⟨R, rfl⟩ := Int.eq_ofNat_of_zero_le r0
  have hR : R ≤ 44 := by omega
  have D0 := hide (show DrR w R R 0 [] (.slice none 0 0) w2 from ⟨by simp, by simp, by simp, by simp, World.ownsRow_nil _ _ _ _, hb2.row (unhide RH) (by omega), hc2.mono (by omega), (unhide HB).trans (hb2.below (Nat.le_refl _) (unhide HB).size)⟩)
  clear HB HC HW1 RH hc2 hb2 r0 r1 hmn hlm
  go_wp2_with fail
  go_loopw [8, 9, 10] (fun v t n w' => ∃ (k : Nat) (T : Int) (l : List RecoverEventT), n = .int .i64 k ∧ t = .int .i64 T ∧ Hid (DrR w R k T l v w')) (fun _ _ n _ => (intOf n).toNat)
  case atStart => exact ⟨R, 0, [], rfl, rfl, D0⟩
  case round =>
    obtain ⟨k, T, l, rfl, rfl, hD⟩ := hrel
    have hcnt := (unhide hD).cnt
    have ht0 := (unhide hD).t0
    have ht1 := (unhide hD).t1
    clear D0
    obtain ⟨L, hL⟩ : ∃ L, l.length = L := ⟨_, rfl⟩
    rw [hL] at hcnt ht1
    have HLn := hide hL
    have L44 : L ≤ 44 := by omega
    clear hL
    by_cases hk : k = 0
    · subst hk
      have RH := hide ((unhide hD).hlp)
      have OW := hide ((unhide hD).own)
      have hwz := (unhide hD).hlp.lt
      go_wp2_with fail
      refine (one_any w.heap.size _ 20 _ (by rw [unhide HLn]; omega) (by omega) (by omega) (unhide hD).cur).mono ?_
      rintro e w3 ⟨⟨b3, rfl⟩, hc3, hb3⟩
      have C3 := hide hc3
      have B3 := hide hb3
      clear hc3 hb3
      have s3 := (unhide B3).size
      cases b3
      · have R3 := hide ((unhide B3).row (unhide RH) (by omega))
        go_wp2_with fail
        go_region_with (first
          | (go_at_call 8; (with_reducible refine (pick_any w.heap.size _ 3 _ (by rw [unhide HLn]; omega) (by omega) (by omega) ((unhide C3).keep (drewB _))).mono ?_); rintro e u1 ⟨⟨n, n0, n1, rfl⟩, hc, hb⟩; have hwr : IntKind.i64.wrap (1 + n) = 1 + n := (by rw [IntKind.wrap_i64]; omega); have U1 := hide ((But.of (drewB _)).trans hb); have D1 := hide hc; have hbl := hc.lt; clear hc hb)
          | (go_at_call 12; (with_reducible refine (rare_cur w.heap.size _ 4 _ (by rw [unhide HLn]; omega) (by omega) (by omega) ((unhide D1).keep (bAl (Below.refl _ _) (.cells #[.int .i64 (1 + n), .int .i64 0, .int .i64 10, .int .i64 11] 3)))).mono ?_); rintro e u2 ⟨⟨r, r0, r1, rfl⟩, hc, hb⟩; have U2p := hide (((unhide U1).trans (But.of (bAl (Below.refl _ _) (.cells #[.int .i64 (1 + n), .int .i64 0, .int .i64 10, .int .i64 11] 3)))).trans hb); have D2p := hide hc; obtain ⟨RR, rfl⟩ := Int.eq_ofNat_of_zero_le r0; have hrw := (hb.row (RowIs.new u1 #[.int .i64 (1 + n), .int .i64 0, .int .i64 10, .int .i64 11] 3) (by omega)); obtain ⟨N, hx⟩ := four_int (Q := RR) hrw (by omega); have hzx := hrw.lt; have hnx := Nat.ne_of_gt hbl; have HX := hide (But.cellAt hzx hnx hx); clear hc hb hrw)
          | (go_at_call 12; (with_reducible refine (rare_cur w.heap.size _ 4 _ (by rw [unhide HLn]; omega) (by omega) (by omega) (unhide D1)).mono ?_); rintro e u2 ⟨⟨r, r0, r1, rfl⟩, hc, hb⟩; have U2 := hide ((unhide U1).trans hb); have U2A := hide (((unhide U1).trans hb).trans (But.of (bAl (Below.refl _ _) (.cells #[.int .i64 (1 + n), .int .i64 0, .int .i64 10, .int .i64 11] 3)))); have D2 := hide hc; have D2A := hide (hc.keep (bAl (Below.refl _ _) (.cells #[.int .i64 (1 + n), .int .i64 0, .int .i64 10, .int .i64 11] 3))); obtain ⟨RR, rfl⟩ := Int.eq_ofNat_of_zero_le r0; have hrw := (RowIs.new u2 #[.int .i64 (1 + n), .int .i64 0, .int .i64 10, .int .i64 11] 3); obtain ⟨N, hx⟩ := four_int (Q := RR) hrw (by omega); have hzx := hrw.lt; have hnx := Nat.ne_of_gt hc.lt; have HX := hide (But.cellAt hzx hnx hx); clear hc hb hrw)
          | (go_at_call 8; (with_reducible refine (pick_any w.heap.size _ 9 _ (by rw [unhide HLn]; omega) (by omega) (by omega) (unhide D2p)).mono ?_); rintro e u3 ⟨⟨q, q0, q1, rfl⟩, hc, hb⟩; have U3 := hide ((unhide U2p).trans hb); have hx3 := unhide HX _ hb; clear hc hb)
          | (go_at_call 8; (with_reducible refine (pick_any w.heap.size _ 9 _ (by rw [unhide HLn]; omega) (by omega) (by omega) (unhide D2A)).mono ?_); rintro e u3 ⟨⟨q, q0, q1, rfl⟩, hc, hb⟩; have U3 := hide ((unhide U2A).trans hb); have hx3 := unhide HX _ hb; clear hc hb)
          | (go_at_call 8; (with_reducible refine (pick_any w.heap.size _ 9 _ (by rw [unhide HLn]; omega) (by omega) (by omega) (unhide D2)).mono ?_); rintro e u3 ⟨⟨q, q0, q1, rfl⟩, hc, hb⟩; have U3 := hide (((unhide U2).trans hb).trans (But.of (bAl (Below.refl _ _) (.cells #[.int .i64 (1 + n), .int .i64 0, .int .i64 10, .int .i64 11] 3)))); obtain ⟨N, hx3⟩ := four_int (Q := RR) (RowIs.new u3 #[.int .i64 (1 + n), .int .i64 0, .int .i64 10, .int .i64 11] 3) (by omega); clear hc hb))
        all_goals
          go_wp2_with fail
          ((try simp only [Exit.inBlock, Exit.then]); refine bodyPost_ret (results_tmp4 rfl _ _ _) rfl ?_)
          have UF := hide ((unhide B3).trans (unhide U3))
          exact ⟨⟨N, q, _, _, l, [nBob, nCy, nDan], by rw [unhide HLn]; omega, (unhide hD).ev, ⟨by omega, by omega⟩, rfl, own_lo (own_blk (unhide OW) (fun g hg => (unhide UF).block g ((unhide OW).lt g hg).2 (by have := ((unhide OW).lt g hg).1; omega))) (by omega), ⟨_, _, rfl, by omega, three_sl ((unhide U3).row (unhide R3) (by omega)), some_le (.inl rfl)⟩⟩, (unhide hD).bel.trans ((unhide UF).below (Nat.le_refl _) (unhide hD).bel.size)⟩
      · have C5 := hide ((unhide C3).keep (bAl (Below.refl _ _) (.cells #[.string ⟨#[99, 121]⟩, .string ⟨#[98, 111, 98]⟩] 9)))
        have B5 := hide ((unhide B3).trans (But.of (bAl (Below.refl _ _) (.cells #[.string ⟨#[99, 121]⟩, .string ⟨#[98, 111, 98]⟩] 9))))
        have R5 := hide (RowIs.new w3 #[.string ⟨#[99, 121]⟩, .string ⟨#[98, 111, 98]⟩] 9)
        go_wp2_with fail
        go_region_with (first
          | (go_at_call 8; (with_reducible refine (pick_any w.heap.size _ 3 _ (by rw [unhide HLn]; omega) (by omega) (by omega) ((unhide C5).keep (drewB _))).mono ?_); rintro e u1 ⟨⟨n, n0, n1, rfl⟩, hc, hb⟩; have hwr : IntKind.i64.wrap (1 + n) = 1 + n := (by rw [IntKind.wrap_i64]; omega); have U1 := hide ((But.of (drewB _)).trans hb); have D1 := hide hc; have hbl := hc.lt; clear hc hb)
          | (go_at_call 12; (with_reducible refine (rare_cur w.heap.size _ 4 _ (by rw [unhide HLn]; omega) (by omega) (by omega) ((unhide D1).keep (bAl (Below.refl _ _) (.cells #[.int .i64 (1 + n), .int .i64 0, .int .i64 10, .int .i64 11] 3)))).mono ?_); rintro e u2 ⟨⟨r, r0, r1, rfl⟩, hc, hb⟩; have U2p := hide (((unhide U1).trans (But.of (bAl (Below.refl _ _) (.cells #[.int .i64 (1 + n), .int .i64 0, .int .i64 10, .int .i64 11] 3)))).trans hb); have D2p := hide hc; obtain ⟨RR, rfl⟩ := Int.eq_ofNat_of_zero_le r0; have hrw := (hb.row (RowIs.new u1 #[.int .i64 (1 + n), .int .i64 0, .int .i64 10, .int .i64 11] 3) (by omega)); obtain ⟨N, hx⟩ := four_int (Q := RR) hrw (by omega); have hzx := hrw.lt; have hnx := Nat.ne_of_gt hbl; have HX := hide (But.cellAt hzx hnx hx); clear hc hb hrw)
          | (go_at_call 12; (with_reducible refine (rare_cur w.heap.size _ 4 _ (by rw [unhide HLn]; omega) (by omega) (by omega) (unhide D1)).mono ?_); rintro e u2 ⟨⟨r, r0, r1, rfl⟩, hc, hb⟩; have U2 := hide ((unhide U1).trans hb); have U2A := hide (((unhide U1).trans hb).trans (But.of (bAl (Below.refl _ _) (.cells #[.int .i64 (1 + n), .int .i64 0, .int .i64 10, .int .i64 11] 3)))); have D2 := hide hc; have D2A := hide (hc.keep (bAl (Below.refl _ _) (.cells #[.int .i64 (1 + n), .int .i64 0, .int .i64 10, .int .i64 11] 3))); obtain ⟨RR, rfl⟩ := Int.eq_ofNat_of_zero_le r0; have hrw := (RowIs.new u2 #[.int .i64 (1 + n), .int .i64 0, .int .i64 10, .int .i64 11] 3); obtain ⟨N, hx⟩ := four_int (Q := RR) hrw (by omega); have hzx := hrw.lt; have hnx := Nat.ne_of_gt hc.lt; have HX := hide (But.cellAt hzx hnx hx); clear hc hb hrw)
          | (go_at_call 8; (with_reducible refine (pick_any w.heap.size _ 9 _ (by rw [unhide HLn]; omega) (by omega) (by omega) (unhide D2p)).mono ?_); rintro e u3 ⟨⟨q, q0, q1, rfl⟩, hc, hb⟩; have U3 := hide ((unhide U2p).trans hb); have hx3 := unhide HX _ hb; clear hc hb)
          | (go_at_call 8; (with_reducible refine (pick_any w.heap.size _ 9 _ (by rw [unhide HLn]; omega) (by omega) (by omega) (unhide D2A)).mono ?_); rintro e u3 ⟨⟨q, q0, q1, rfl⟩, hc, hb⟩; have U3 := hide ((unhide U2A).trans hb); have hx3 := unhide HX _ hb; clear hc hb)
          | (go_at_call 8; (with_reducible refine (pick_any w.heap.size _ 9 _ (by rw [unhide HLn]; omega) (by omega) (by omega) (unhide D2)).mono ?_); rintro e u3 ⟨⟨q, q0, q1, rfl⟩, hc, hb⟩; have U3 := hide (((unhide U2).trans hb).trans (But.of (bAl (Below.refl _ _) (.cells #[.int .i64 (1 + n), .int .i64 0, .int .i64 10, .int .i64 11] 3)))); obtain ⟨N, hx3⟩ := four_int (Q := RR) (RowIs.new u3 #[.int .i64 (1 + n), .int .i64 0, .int .i64 10, .int .i64 11] 3) (by omega); clear hc hb))
        all_goals
          go_wp2_with fail
          ((try simp only [Exit.inBlock, Exit.then]); refine bodyPost_ret (results_tmp4 rfl _ _ _) rfl ?_)
          have UF := hide ((unhide B5).trans (unhide U3))
          exact ⟨⟨N, q, _, _, l, [nCy, nBob], by rw [unhide HLn]; omega, (unhide hD).ev, ⟨by omega, by omega⟩, rfl, own_lo (own_blk (unhide OW) (fun g hg => (unhide UF).block g ((unhide OW).lt g hg).2 (by have := ((unhide OW).lt g hg).1; omega))) (by omega), ⟨_, _, rfl, by omega, two_sl ((unhide U3).row (unhide R5) (by omega)), some_le (.inr rfl)⟩⟩, (unhide hD).bel.trans ((unhide UF).below (Nat.le_refl _) (unhide hD).bel.size)⟩
    · obtain ⟨k', rfl⟩ : ∃ k', k = k' + 1 := ⟨k - 1, by omega⟩
      go_wp2_with fail
      refine (pick_any w.heap.size _ 6 _ (by rw [unhide HLn]; omega) (by omega) (by omega) (unhide hD).cur).mono ?_
      rintro e w3 ⟨⟨r3, p0, p1, rfl⟩, hc3, hb3⟩
      obtain ⟨W4, hW4⟩ : ∃ W4, W4 = w3.alloc (.cells #[.int .i64 1, .int .i64 2, .int .i64 2, .int .i64 2, .int .i64 4, .int .i64 4, .int .i64 3, .int .i64 0] 3) := ⟨_, rfl⟩
      have b4 : Below w3.heap.size w3 W4 := by rw [hW4]; exact bAl (Below.refl _ _) _
      have RK := hide (show RowIs W4 w3.heap.size #[.int .i64 1, .int .i64 2, .int .i64 2, .int .i64 2, .int .i64 4, .int .i64 4, .int .i64 3, .int .i64 0] 3 by rw [hW4]; exact RowIs.new _ _ _)
      have C4 := hide (hc3.keep b4)
      have B4 := hide (hb3.trans (But.of b4))
      have n3 : w3.heap.size ≠ w.heap.size := by have := hc3.lt; omega
      have HW4 := hide hW4.symm
      clear hc3 hb3 b4 hW4
      go_wp2_with fail
      rw [unhide HW4]
      clear HW4
      refine (pick_any w.heap.size _ 30 W4 (by rw [unhide HLn]; omega) (by omega) (by omega) (unhide C4)).mono ?_
      rintro e w5 ⟨⟨r5, p2, p3, rfl⟩, hc5, hb5⟩
      have RK5 := hb5.row (unhide RK) n3
      obtain ⟨q, rfl⟩ := Int.eq_ofNat_of_zero_le p2
      obtain ⟨K, k0, k4, hK⟩ := kinds_at (q % 8) (by omega)
      have cK := RK5.at (o := q % 8) hK
      have zK := RK5.lt
      have C5 := hide hc5
      have B5 := hide ((unhide B4).trans hb5)
      have e8 : (q : Int).tmod 8 = ((q % 8 : Nat) : Int) := by rw [Int.tmod_eq_emod_of_nonneg (by omega)]; omega
      have q8 : q % 8 < 8 := by omega
      have w5w := hide ((unhide B5).size)
      have nE : w5.heap.size ≠ w.heap.size := by have := (unhide C5).lt; omega
      have nE' : w.heap.size < w5.heap.size := by have := (unhide C5).lt; omega
      have wrw := (unhide B5).size
      obtain ⟨wy, hwy⟩ : ∃ W, W = w5.alloc (.cells #[.int .i64 K, .int .i64 (T + r3), .string ⟨#[]⟩] 31) := ⟨_, rfl⟩
      have by' : Below w5.heap.size w5 wy := by rw [hwy]; exact bAl (Below.refl _ _) _
      have RY := hide (show RowIs wy w5.heap.size #[.int .i64 K, .int .i64 (T + r3), .string ⟨#[]⟩] 31 by rw [hwy]; exact RowIs.new _ _ _)
      have CY := hide ((unhide C5).keep by')
      have BY := hide ((unhide B5).trans (But.of by'))
      have HWY := hide hwy.symm
      have y0 := (unhide RY).at (o := 0) (v := .int .i64 K) rfl
      have yz := (unhide RY).lt
      clear hc5 hb5 RK5 RK hK C4 B4 p2 hwy by' C5 B5
      by_cases hK2 : K = 2
      · subst hK2
        go_upto_region 10 with fail
        rw [unhide HWY]
        clear HWY
        obtain ⟨W7, hW7⟩ : ∃ W7, W7 = World.alloc wy (.cells #[.string ⟨#[98, 111, 98]⟩, .string ⟨#[99, 121]⟩, .string ⟨#[100, 97, 110]⟩, .string ⟨#[101, 118, 101]⟩] 9) := ⟨_, rfl⟩
        have b7 : Below wy.heap.size wy W7 := by rw [hW7]; exact bAl (Below.refl _ _) _
        have R7 := (unhide RY).keep b7
        have N7 := four_row (show RowIs W7 wy.heap.size #[.string ⟨#[98, 111, 98]⟩, .string ⟨#[99, 121]⟩, .string ⟨#[100, 97, 110]⟩, .string ⟨#[101, 118, 101]⟩] 9 by rw [hW7]; exact RowIs.new _ _ _)
        have C7 := hide ((unhide CY).keep b7)
        have B7 := hide ((unhide BY).trans (But.of b7))
        have nz : wy.heap.size ≠ w.heap.size := by have := (unhide CY).lt; omega
        have q7 := hide (of_any w.heap.size _ wy.heap.size [nBob, nCy, nDan, nEve] 4 W7 (by rw [unhide HLn]; omega) (by omega) (by omega) rfl (unhide C7) N7 nz)
        have H7 := hide R7
        have HW7 := hide hW7.symm
        clear hW7 b7 R7 N7
        go_wp2_with fail
        rw [unhide HW7]
        refine (unhide q7).mono ?_
        rintro e w8 ⟨⟨s, hs, rfl⟩, hc8, hb8⟩
        have R8 := hb8.row (unhide H7) nE
        have SL := hide (name_le hs)
        have c2 := R8.at (o := 2) (v := .string ⟨#[]⟩) rfl
        have f2 := R8.froz 2
        have z8 := R8.lt
        obtain ⟨w8', hw8⟩ : ∃ W', W' = w8.setCell ⟨w5.heap.size, 2, none⟩ (.string s) := ⟨_, rfl⟩
        have RZ := hide (show RowIs w8' w5.heap.size #[.int .i64 2, .int .i64 (T + r3), .string s] 31 by rw [hw8]; exact R8.set 2 _)
        have CZ := hide (show CurOk w8' w.heap.size _ by rw [hw8]; exact hc8.setAbove _ (by omega))
        have BZ := hide (show But w.heap.size wr w8' by rw [hw8]; exact ((unhide B7).trans hb8).setNew (by omega) _)
        have HW8 := hide hw8.symm
        clear hw8 R8 hc8 hb8 q7 H7 C7 B7 hs
        go_upto_region 12 with fail
        rw [unhide HW8]
        clear HW8 c2 f2 z8
        go_wp2_with fail
        refine (one_any w.heap.size _ 20 _ (by rw [unhide HLn]; omega) (by omega) (by omega) (unhide CZ)).mono ?_
        rintro e w9 ⟨⟨b9, rfl⟩, hc9, hb9⟩
        have R9 := hide (hb9.row (unhide RZ) nE)
        have C9 := hide hc9
        have B9 := hide ((unhide BZ).trans hb9)
        clear hc9 hb9 RZ CZ BZ
        have x0 := (unhide R9).at (o := 0) (v := .int .i64 2) rfl
        have x1 := (unhide R9).at (o := 1) (v := .int .i64 (T + r3)) rfl
        have x2 := (unhide R9).at (o := 2) (v := .string s) rfl
        have f1 := (unhide R9).froz 1
        have zx := (unhide R9).lt
        have sz9 := (unhide B9).size
        cases b9
        · have BF := hide (unhide B9)
          have CF := hide ((unhide C9).mono (show _ ≤ 10 + 20 * (l.length + 1) by rw [unhide HLn]; omega))
          have DY := hide (show DrE ⟨2, T + r3, s⟩ from ⟨by show _ ≤ T + r3; omega, by show T + r3 ≤ _; omega, unhide SL, by show (0 : Int) ≤ 2; omega, by show (2 : Int) ≤ 4; omega⟩)
          have O9 := hide (own_blk (unhide hD).own (w' := World.alloc _ (.cells #[.int .i64 2, .int .i64 (T + r3), .string s] 31)) (fun g hg => ((unhide BF).trans (But.of (bAl (Below.refl _ _) (.cells #[.int .i64 2, .int .i64 (T + r3), .string s] 31)))).block g ((unhide hD).own.lt g hg).2 (by have := ((unhide hD).own.lt g hg).1; omega)))
          have O9Z := hide (show w.heap.size + 2 ≤ wr.heap.size + 1 by have := (unhide hD).hlp.lt; omega)
          go_wp2_with (at_builtin; refine wpList_append_own _ rfl _ _ 24 rfl (w.heap.size + 2) 31 i0 (.agg #[.int .i64 0, .int .i64 0, .string ByteArray.empty]) 3 32 Try.underlying24 (unhide HI).1 (unhide HI).2.1 (unhide HI).2.2.1 (unhide HI).2.2.2 rfl (by decide) _ _ _ rfl (unhide O9) ⟨_, 0, none⟩ 1 1 (encRecoverEvent ⟨2, T + r3, s⟩) rfl rfl (cell3 _ _ _ _ _ rfl) (encRecoverEvent_one _) (by rw [unhide HLn]; unfold maxLen; omega) (by rw [unhide HLn]; omega) (by have := (unhide O9Z); simp; omega) ?_; intro v' w10 hown hgrow _)
          exact ⟨⟨k', T + r3, l ++ [⟨2, T + r3, s⟩], by simp, rfl, hide ((unhide hD).more (unhide BF) (unhide CF) (unhide DY) ⟨by omega, by omega⟩ (by simpa using hown) hgrow)⟩, by simp [intOf]⟩
        · obtain ⟨wq, hwq⟩ : ∃ W', W' = w9.setCell ⟨w5.heap.size, 1, none⟩ (.int .i64 (T + r3 - 5)) := ⟨_, rfl⟩
          have RQ := hide (show RowIs wq w5.heap.size #[.int .i64 2, .int .i64 (T + r3 - 5), .string s] 31 by rw [hwq]; exact (unhide R9).set 1 _)
          have BF := hide (show But w.heap.size wr wq by rw [hwq]; exact (unhide B9).setNew (by omega) _)
          have CF := hide (show CurOk wq w.heap.size (10 + 20 * (l.length + 1)) by rw [hwq]; exact ((unhide C9).setAbove _ (by omega)).mono (by rw [unhide HLn]; omega))
          have HWQ := hide hwq.symm
          clear hwq
          go_upto_region 14 with fail
          rw [unhide HWQ]
          clear HWQ x0 x1 x2 f1 zx sz9
          have x0 := (unhide RQ).at (o := 0) (v := .int .i64 2) rfl
          have x1 := (unhide RQ).at (o := 1) (v := .int .i64 (T + r3 - 5)) rfl
          have x2 := (unhide RQ).at (o := 2) (v := .string s) rfl
          have zx := (unhide RQ).lt
          have sz9 := (unhide BF).size
          have DY := hide (show DrE ⟨2, T + r3 - 5, s⟩ from ⟨by show _ ≤ T + r3 - 5; omega, by show T + r3 - 5 ≤ _; omega, unhide SL, by show (0 : Int) ≤ 2; omega, by show (2 : Int) ≤ 4; omega⟩)
          have O9 := hide (own_blk (unhide hD).own (w' := World.alloc _ (.cells #[.int .i64 2, .int .i64 (T + r3 - 5), .string s] 31)) (fun g hg => ((unhide BF).trans (But.of (bAl (Below.refl _ _) (.cells #[.int .i64 2, .int .i64 (T + r3 - 5), .string s] 31)))).block g ((unhide hD).own.lt g hg).2 (by have := ((unhide hD).own.lt g hg).1; omega)))
          have O9Z := hide (show w.heap.size + 2 ≤ wr.heap.size + 1 by have := (unhide hD).hlp.lt; omega)
          go_wp2_with (at_builtin; refine wpList_append_own _ rfl _ _ 24 rfl (w.heap.size + 2) 31 i0 (.agg #[.int .i64 0, .int .i64 0, .string ByteArray.empty]) 3 32 Try.underlying24 (unhide HI).1 (unhide HI).2.1 (unhide HI).2.2.1 (unhide HI).2.2.2 rfl (by decide) _ _ _ rfl (unhide O9) ⟨_, 0, none⟩ 1 1 (encRecoverEvent ⟨2, T + r3 - 5, s⟩) rfl rfl (cell3 _ _ _ _ _ rfl) (encRecoverEvent_one _) (by rw [unhide HLn]; unfold maxLen; omega) (by rw [unhide HLn]; omega) (by have := (unhide O9Z); simp; omega) ?_; intro v' w10 hown hgrow _)
          exact ⟨⟨k', T + r3, l ++ [⟨2, T + r3 - 5, s⟩], by simp, rfl, hide ((unhide hD).more (unhide BF) (unhide CF) (unhide DY) ⟨by omega, by omega⟩ (by simpa using hown) hgrow)⟩, by simp [intOf]⟩
      · have n2 : (K == 2) = false := by simpa using hK2
        go_upto_region 10 with fail
        rw [unhide HWY]
        clear HWY
        go_wp2_with fail
        refine (one_any w.heap.size _ 30 _ (by rw [unhide HLn]; omega) (by omega) (by omega) (unhide CY)).mono ?_
        rintro e w6 ⟨⟨b6, rfl⟩, hc6, hb6⟩
        have RZ := hide (hb6.row (unhide RY) nE)
        have CZ := hide hc6
        have BZ := hide ((unhide BY).trans hb6)
        clear hc6 hb6 y0 yz
        cases b6
        · clear RY CY BY
          go_wp2_with fail
          refine (one_any w.heap.size _ 20 _ (by rw [unhide HLn]; omega) (by omega) (by omega) (unhide CZ)).mono ?_
          rintro e w9 ⟨⟨b9, rfl⟩, hc9, hb9⟩
          have R9 := hide (hb9.row (unhide RZ) nE)
          have C9 := hide hc9
          have B9 := hide ((unhide BZ).trans hb9)
          clear hc9 hb9 RZ CZ BZ
          have x0 := (unhide R9).at (o := 0) (v := .int .i64 K) rfl
          have x1 := (unhide R9).at (o := 1) (v := .int .i64 (T + r3)) rfl
          have x2 := (unhide R9).at (o := 2) (v := .string ⟨#[]⟩) rfl
          have f1 := (unhide R9).froz 1
          have zx := (unhide R9).lt
          have sz9 := (unhide B9).size
          cases b9
          · have BF := hide (unhide B9)
            have CF := hide ((unhide C9).mono (show _ ≤ 10 + 20 * (l.length + 1) by rw [unhide HLn]; omega))
            have DY := hide (show DrE ⟨K, T + r3, ⟨#[]⟩⟩ from ⟨by show _ ≤ T + r3; omega, by show T + r3 ≤ _; omega, (show (⟨#[]⟩ : ByteArray).size ≤ maxLen by decide), by show (0 : Int) ≤ K; omega, by show (K : Int) ≤ 4; omega⟩)
            have O9 := hide (own_blk (unhide hD).own (w' := World.alloc _ (.cells #[.int .i64 K, .int .i64 (T + r3), .string ⟨#[]⟩] 31)) (fun g hg => ((unhide BF).trans (But.of (bAl (Below.refl _ _) (.cells #[.int .i64 K, .int .i64 (T + r3), .string ⟨#[]⟩] 31)))).block g ((unhide hD).own.lt g hg).2 (by have := ((unhide hD).own.lt g hg).1; omega)))
            have O9Z := hide (show w.heap.size + 2 ≤ wr.heap.size + 1 by have := (unhide hD).hlp.lt; omega)
            go_wp2_with (at_builtin; refine wpList_append_own _ rfl _ _ 24 rfl (w.heap.size + 2) 31 i0 (.agg #[.int .i64 0, .int .i64 0, .string ByteArray.empty]) 3 32 Try.underlying24 (unhide HI).1 (unhide HI).2.1 (unhide HI).2.2.1 (unhide HI).2.2.2 rfl (by decide) _ _ _ rfl (unhide O9) ⟨_, 0, none⟩ 1 1 (encRecoverEvent ⟨K, T + r3, ⟨#[]⟩⟩) rfl rfl (cell3 _ _ _ _ _ rfl) (encRecoverEvent_one _) (by rw [unhide HLn]; unfold maxLen; omega) (by rw [unhide HLn]; omega) (by have := (unhide O9Z); simp; omega) ?_; intro v' w10 hown hgrow _)
            exact ⟨⟨k', T + r3, l ++ [⟨K, T + r3, ⟨#[]⟩⟩], by simp, rfl, hide ((unhide hD).more (unhide BF) (unhide CF) (unhide DY) ⟨by omega, by omega⟩ (by simpa using hown) hgrow)⟩, by simp [intOf]⟩
          · obtain ⟨wq, hwq⟩ : ∃ W', W' = w9.setCell ⟨w5.heap.size, 1, none⟩ (.int .i64 (T + r3 - 5)) := ⟨_, rfl⟩
            have RQ := hide (show RowIs wq w5.heap.size #[.int .i64 K, .int .i64 (T + r3 - 5), .string ⟨#[]⟩] 31 by rw [hwq]; exact (unhide R9).set 1 _)
            have BF := hide (show But w.heap.size wr wq by rw [hwq]; exact (unhide B9).setNew (by omega) _)
            have CF := hide (show CurOk wq w.heap.size (10 + 20 * (l.length + 1)) by rw [hwq]; exact ((unhide C9).setAbove _ (by omega)).mono (by rw [unhide HLn]; omega))
            have HWQ := hide hwq.symm
            clear hwq
            go_upto_region 14 with fail
            rw [unhide HWQ]
            clear HWQ x0 x1 x2 f1 zx sz9
            have x0 := (unhide RQ).at (o := 0) (v := .int .i64 K) rfl
            have x1 := (unhide RQ).at (o := 1) (v := .int .i64 (T + r3 - 5)) rfl
            have x2 := (unhide RQ).at (o := 2) (v := .string ⟨#[]⟩) rfl
            have zx := (unhide RQ).lt
            have sz9 := (unhide BF).size
            have DY := hide (show DrE ⟨K, T + r3 - 5, ⟨#[]⟩⟩ from ⟨by show _ ≤ T + r3 - 5; omega, by show T + r3 - 5 ≤ _; omega, (show (⟨#[]⟩ : ByteArray).size ≤ maxLen by decide), by show (0 : Int) ≤ K; omega, by show (K : Int) ≤ 4; omega⟩)
            have O9 := hide (own_blk (unhide hD).own (w' := World.alloc _ (.cells #[.int .i64 K, .int .i64 (T + r3 - 5), .string ⟨#[]⟩] 31)) (fun g hg => ((unhide BF).trans (But.of (bAl (Below.refl _ _) (.cells #[.int .i64 K, .int .i64 (T + r3 - 5), .string ⟨#[]⟩] 31)))).block g ((unhide hD).own.lt g hg).2 (by have := ((unhide hD).own.lt g hg).1; omega)))
            have O9Z := hide (show w.heap.size + 2 ≤ wr.heap.size + 1 by have := (unhide hD).hlp.lt; omega)
            go_wp2_with (at_builtin; refine wpList_append_own _ rfl _ _ 24 rfl (w.heap.size + 2) 31 i0 (.agg #[.int .i64 0, .int .i64 0, .string ByteArray.empty]) 3 32 Try.underlying24 (unhide HI).1 (unhide HI).2.1 (unhide HI).2.2.1 (unhide HI).2.2.2 rfl (by decide) _ _ _ rfl (unhide O9) ⟨_, 0, none⟩ 1 1 (encRecoverEvent ⟨K, T + r3 - 5, ⟨#[]⟩⟩) rfl rfl (cell3 _ _ _ _ _ rfl) (encRecoverEvent_one _) (by rw [unhide HLn]; unfold maxLen; omega) (by rw [unhide HLn]; omega) (by have := (unhide O9Z); simp; omega) ?_; intro v' w10 hown hgrow _)
            exact ⟨⟨k', T + r3, l ++ [⟨K, T + r3 - 5, ⟨#[]⟩⟩], by simp, rfl, hide ((unhide hD).more (unhide BF) (unhide CF) (unhide DY) ⟨by omega, by omega⟩ (by simpa using hown) hgrow)⟩, by simp [intOf]⟩
        · obtain ⟨wy, hwy⟩ : ∃ W, W = w6 := ⟨_, rfl⟩
          subst hwy
          clear RY CY BY
          have RY := RZ
          have CY := CZ
          have BY := BZ
          clear RZ CZ BZ
          obtain ⟨W7, hW7⟩ : ∃ W7, W7 = World.alloc wy (.cells #[.string ⟨#[98, 111, 98]⟩, .string ⟨#[99, 121]⟩, .string ⟨#[100, 97, 110]⟩, .string ⟨#[101, 118, 101]⟩] 9) := ⟨_, rfl⟩
          have b7 : Below wy.heap.size wy W7 := by rw [hW7]; exact bAl (Below.refl _ _) _
          have R7 := (unhide RY).keep b7
          have N7 := four_row (show RowIs W7 wy.heap.size #[.string ⟨#[98, 111, 98]⟩, .string ⟨#[99, 121]⟩, .string ⟨#[100, 97, 110]⟩, .string ⟨#[101, 118, 101]⟩] 9 by rw [hW7]; exact RowIs.new _ _ _)
          have C7 := hide ((unhide CY).keep b7)
          have B7 := hide ((unhide BY).trans (But.of b7))
          have nz : wy.heap.size ≠ w.heap.size := by have := (unhide CY).lt; omega
          have q7 := hide (of_any w.heap.size _ wy.heap.size [nBob, nCy, nDan, nEve] 4 W7 (by rw [unhide HLn]; omega) (by omega) (by omega) rfl (unhide C7) N7 nz)
          have H7 := hide R7
          have HW7 := hide hW7.symm
          clear hW7 b7 R7 N7
          go_wp2_with fail
          rw [unhide HW7]
          refine (unhide q7).mono ?_
          rintro e w8 ⟨⟨s, hs, rfl⟩, hc8, hb8⟩
          have R8 := hb8.row (unhide H7) nE
          have SL := hide (name_le hs)
          have c2 := R8.at (o := 2) (v := .string ⟨#[]⟩) rfl
          have f2 := R8.froz 2
          have z8 := R8.lt
          obtain ⟨w8', hw8⟩ : ∃ W', W' = w8.setCell ⟨w5.heap.size, 2, none⟩ (.string s) := ⟨_, rfl⟩
          have RZ := hide (show RowIs w8' w5.heap.size #[.int .i64 K, .int .i64 (T + r3), .string s] 31 by rw [hw8]; exact R8.set 2 _)
          have CZ := hide (show CurOk w8' w.heap.size _ by rw [hw8]; exact hc8.setAbove _ (by omega))
          have BZ := hide (show But w.heap.size wr w8' by rw [hw8]; exact ((unhide B7).trans hb8).setNew (by omega) _)
          have HW8 := hide hw8.symm
          clear hw8 R8 hc8 hb8 q7 H7 C7 B7 hs
          go_upto_region 12 with fail
          rw [unhide HW8]
          clear HW8 c2 f2 z8
          go_wp2_with fail
          refine (one_any w.heap.size _ 20 _ (by rw [unhide HLn]; omega) (by omega) (by omega) (unhide CZ)).mono ?_
          rintro e w9 ⟨⟨b9, rfl⟩, hc9, hb9⟩
          have R9 := hide (hb9.row (unhide RZ) nE)
          have C9 := hide hc9
          have B9 := hide ((unhide BZ).trans hb9)
          clear hc9 hb9 RZ CZ BZ
          have x0 := (unhide R9).at (o := 0) (v := .int .i64 K) rfl
          have x1 := (unhide R9).at (o := 1) (v := .int .i64 (T + r3)) rfl
          have x2 := (unhide R9).at (o := 2) (v := .string s) rfl
          have f1 := (unhide R9).froz 1
          have zx := (unhide R9).lt
          have sz9 := (unhide B9).size
          cases b9
          · have BF := hide (unhide B9)
            have CF := hide ((unhide C9).mono (show _ ≤ 10 + 20 * (l.length + 1) by rw [unhide HLn]; omega))
            have DY := hide (show DrE ⟨K, T + r3, s⟩ from ⟨by show _ ≤ T + r3; omega, by show T + r3 ≤ _; omega, unhide SL, by show (0 : Int) ≤ K; omega, by show (K : Int) ≤ 4; omega⟩)
            have O9 := hide (own_blk (unhide hD).own (w' := World.alloc _ (.cells #[.int .i64 K, .int .i64 (T + r3), .string s] 31)) (fun g hg => ((unhide BF).trans (But.of (bAl (Below.refl _ _) (.cells #[.int .i64 K, .int .i64 (T + r3), .string s] 31)))).block g ((unhide hD).own.lt g hg).2 (by have := ((unhide hD).own.lt g hg).1; omega)))
            have O9Z := hide (show w.heap.size + 2 ≤ wr.heap.size + 1 by have := (unhide hD).hlp.lt; omega)
            go_wp2_with (at_builtin; refine wpList_append_own _ rfl _ _ 24 rfl (w.heap.size + 2) 31 i0 (.agg #[.int .i64 0, .int .i64 0, .string ByteArray.empty]) 3 32 Try.underlying24 (unhide HI).1 (unhide HI).2.1 (unhide HI).2.2.1 (unhide HI).2.2.2 rfl (by decide) _ _ _ rfl (unhide O9) ⟨_, 0, none⟩ 1 1 (encRecoverEvent ⟨K, T + r3, s⟩) rfl rfl (cell3 _ _ _ _ _ rfl) (encRecoverEvent_one _) (by rw [unhide HLn]; unfold maxLen; omega) (by rw [unhide HLn]; omega) (by have := (unhide O9Z); simp; omega) ?_; intro v' w10 hown hgrow _)
            exact ⟨⟨k', T + r3, l ++ [⟨K, T + r3, s⟩], by simp, rfl, hide ((unhide hD).more (unhide BF) (unhide CF) (unhide DY) ⟨by omega, by omega⟩ (by simpa using hown) hgrow)⟩, by simp [intOf]⟩
          · obtain ⟨wq, hwq⟩ : ∃ W', W' = w9.setCell ⟨w5.heap.size, 1, none⟩ (.int .i64 (T + r3 - 5)) := ⟨_, rfl⟩
            have RQ := hide (show RowIs wq w5.heap.size #[.int .i64 K, .int .i64 (T + r3 - 5), .string s] 31 by rw [hwq]; exact (unhide R9).set 1 _)
            have BF := hide (show But w.heap.size wr wq by rw [hwq]; exact (unhide B9).setNew (by omega) _)
            have CF := hide (show CurOk wq w.heap.size (10 + 20 * (l.length + 1)) by rw [hwq]; exact ((unhide C9).setAbove _ (by omega)).mono (by rw [unhide HLn]; omega))
            have HWQ := hide hwq.symm
            clear hwq
            go_upto_region 14 with fail
            rw [unhide HWQ]
            clear HWQ x0 x1 x2 f1 zx sz9
            have x0 := (unhide RQ).at (o := 0) (v := .int .i64 K) rfl
            have x1 := (unhide RQ).at (o := 1) (v := .int .i64 (T + r3 - 5)) rfl
            have x2 := (unhide RQ).at (o := 2) (v := .string s) rfl
            have zx := (unhide RQ).lt
            have sz9 := (unhide BF).size
            have DY := hide (show DrE ⟨K, T + r3 - 5, s⟩ from ⟨by show _ ≤ T + r3 - 5; omega, by show T + r3 - 5 ≤ _; omega, unhide SL, by show (0 : Int) ≤ K; omega, by show (K : Int) ≤ 4; omega⟩)
            have O9 := hide (own_blk (unhide hD).own (w' := World.alloc _ (.cells #[.int .i64 K, .int .i64 (T + r3 - 5), .string s] 31)) (fun g hg => ((unhide BF).trans (But.of (bAl (Below.refl _ _) (.cells #[.int .i64 K, .int .i64 (T + r3 - 5), .string s] 31)))).block g ((unhide hD).own.lt g hg).2 (by have := ((unhide hD).own.lt g hg).1; omega)))
            have O9Z := hide (show w.heap.size + 2 ≤ wr.heap.size + 1 by have := (unhide hD).hlp.lt; omega)
            go_wp2_with (at_builtin; refine wpList_append_own _ rfl _ _ 24 rfl (w.heap.size + 2) 31 i0 (.agg #[.int .i64 0, .int .i64 0, .string ByteArray.empty]) 3 32 Try.underlying24 (unhide HI).1 (unhide HI).2.1 (unhide HI).2.2.1 (unhide HI).2.2.2 rfl (by decide) _ _ _ rfl (unhide O9) ⟨_, 0, none⟩ 1 1 (encRecoverEvent ⟨K, T + r3 - 5, s⟩) rfl rfl (cell3 _ _ _ _ _ rfl) (encRecoverEvent_one _) (by rw [unhide HLn]; unfold maxLen; omega) (by rw [unhide HLn]; omega) (by have := (unhide O9Z); simp; omega) ?_; intro v' w10 hown hgrow _)
            exact ⟨⟨k', T + r3, l ++ [⟨K, T + r3 - 5, s⟩], by simp, rfl, hide ((unhide hD).more (unhide BF) (unhide CF) (unhide DY) ⟨by omega, by omega⟩ (by simpa using hown) hgrow)⟩, by simp [intOf]⟩
end Go.Proofs.Ytjmpakpodhbbpaa.C
