/- spec.DrawRunTries; laws.zInts. -/
import Derived.Test.YtgdpbdgbkeghlaaXCur
namespace Go.Proofs.Ytgdpbdgbkeghlaa.C
open Go.RowKit
set_option maxRecDepth 20000

theorem l1Many_any (a : Option Addr) (len cap : Nat) (w : World) (hl : len ≤ maxLen) :
    Calls Try.prog 10 #[.slice a len cap, .int .i64 10, .int .i64 30] w fun e w' => (∃ n : Nat, n ≤ 30 ∧ e = .returned (.int .i64 n)) ∧ w = w' := by
  unfold maxLen at hl
  by_cases h : 30 < len / 10
  · have h1 : (30 : Int) < (len : Int) / 10 := by omega
    go_enter Try.func10, Try.ntmps10
    go_wp2_with fail
    go_ret
    exact ⟨⟨30, by omega, rfl⟩, rfl⟩
  · obtain ⟨q, hq⟩ : ∃ q, len / 10 = q := ⟨_, rfl⟩
    have h1 : (len : Int) / 10 = (q : Int) := by omega
    have h2 : ¬ (30 : Int) < (q : Int) := by omega
    go_enter Try.func10, Try.ntmps10
    go_wp2_with fail
    go_ret
    exact ⟨⟨q, by omega, rfl⟩, rfl⟩
theorem CurOk.grown {w w' : World} {b m : Nat} {row : Option Nat} (h : CurOk w b m) (hg : w.grownBy w' row) (hr : ∀ g, row = some g → b < g) : CurOk w' b m := by
  obtain ⟨a, len, cap, k, seed, h1, h2, h3⟩ := h
  refine ⟨a, len, cap, k, seed, row_grown h1 hg (fun e => by have := hr b e.symm; omega), h2, h3.1, ?_⟩
  rcases h3.2 with e | ⟨blk, off, e, q, n, r⟩
  · exact .inl e
  · refine .inr ⟨blk, off, e, Nat.lt_of_lt_of_le q hg.size, n, fun i hi => ?_⟩
    obtain ⟨x, g1, g2, g3⟩ := r i hi
    refine ⟨x, g1, g2, ?_⟩
    rw [World.cell?_of_block (hg.block blk q (fun e => by have := hr blk e.symm; omega))]
    exact g3
theorem But.grow {b : Nat} {w w' : World} (h : But b w w') : w.grownBy w' (some b) := ⟨h.os, h.tape, h.output, h.size, fun k hk hn => h.block k hk (fun e => hn (by rw [e]))⟩
theorem cellNew2 (w : World) (u v : Value) (T : TypeId) {b : Nat} (hb : w.heap.size = b) : ∀ j x, ([u, v] : List Value)[j]? = some x → (w.alloc (.cells #[u, v] T)).cell? ((⟨b, 0, none⟩ : Addr).add j) = some x := by
  subst hb
  intro j x hj
  match j, hj with
  | 0, hj => simp at hj; subst hj; exact (RowIs.new w #[u, v] T).at rfl
  | 1, hj => simp at hj; subst hj; exact (RowIs.new w #[u, v] T).at rfl
  | j + 2, hj => simp at hj
/-- The state of the drawer. -/
structure DrT (w : World) (R : Nat) (k : Nat) (T : Int) (l : List TryT) (v : Value) (w' : World) : Prop where
  cnt : l.length + k = R
  t0 : -60 * (l.length : Int) ≤ T
  t1 : T ≤ 40 * (l.length : Int)
  own : w'.ownsRow (w.heap.size + 1) 31 2 v l.length (TrysV l)
  cur : CurOk w' w.heap.size (10 + 6 * l.length)
  bel : Below w.heap.size w w'
set_option maxHeartbeats 2000000 in
theorem drawRunTries_any (a : Option Addr) (len cap : Nat) (w : World) (hc : CodeAt w w.heap.size a len) :
    Calls Try.prog 4 #[.slice a len cap] w fun e w' => (∃ (v : Value) (l : List TryT), l.length ≤ 50 ∧ e = .returned v ∧ w'.ownsRow (w.heap.size + 1) 31 2 v l.length (TrysV l)) ∧ Below w.heap.size w w' := by
  obtain ⟨i0, hi, hz⟩ := Option.map_eq_some_iff.1 info_Try
  simp only [Prod.mk.injEq] at hz
  obtain ⟨hz0, hz1, hz2⟩ := hz
  obtain ⟨W, hW⟩ : ∃ W, W = w.alloc (.cells #[.slice a len cap, .int .i64 0, .int .u64 0] 38) := ⟨_, rfl⟩
  have B0 : Below w.heap.size w W := by rw [hW]; exact bAl (Below.refl _ _) _
  have C0 : CurOk W w.heap.size 0 := ⟨a, len, cap, 0, 0, by rw [hW]; exact RowIs.new _ _ _, by omega, by
    refine ⟨hc.1, hc.2.imp_right ?_⟩
    rintro ⟨blk, off, e, q, n, r⟩
    refine ⟨blk, off, e, Nat.lt_of_lt_of_le q B0.size, n, fun i hi => ?_⟩
    obtain ⟨x, g1, g2, g3⟩ := r i hi
    exact ⟨x, g1, g2, by rw [B0.cell q]; exact g3⟩⟩
  have hlm := hc.1
  have HB := hide B0
  have HC := hide C0
  have HW := hide hW.symm
  clear hc B0 C0 hW
  go_enter Try.func4, Try.ntmps4
  go_wp2_with fail
  rw [unhide HW]
  refine (l1Many_any a len cap W hlm).mono ?_
  rintro e w1 ⟨⟨mn, hmn, rfl⟩, rfl⟩
  go_wp2_with fail
  refine (pick_any w.heap.size 0 (12 + (mn : Int)) W (by omega) (by omega) (by omega) (unhide HC)).mono ?_
  rintro e w2 ⟨⟨r, r0, r1, rfl⟩, hc2, hb2⟩
  obtain ⟨R, rfl⟩ := Int.eq_ofNat_of_zero_le r0
  have hR : R ≤ 42 := by omega
  have D0 := hide (show DrT w R R 0 [] (.slice none 0 0) w2 from ⟨by simp, by simp, by simp, World.ownsRow_nil _ _ _ _, hc2.mono (by omega), (unhide HB).trans (hb2.below (Nat.le_refl _) (unhide HB).size)⟩)
  clear HB HC HW hc2 hb2 r0 r1 hmn hlm
  go_wp2_with fail
  go_loopw [4, 5, 6] (fun v t n w' => ∃ (k : Nat) (T : Int) (l : List TryT), n = .int .i64 k ∧ t = .int .i64 T ∧ Hid (DrT w R k T l v w')) (fun _ _ n _ => (intOf n).toNat)
  case atStart => exact ⟨R, 0, [], rfl, rfl, D0⟩
  case round =>
    obtain ⟨k, T, l, rfl, rfl, hD⟩ := hrel
    have hcnt := (unhide hD).cnt
    have ht0 := (unhide hD).t0
    have ht1 := (unhide hD).t1
    by_cases hk : k = 0
    · subst hk
      go_wp2_with fail
      go_ret
      exact ⟨⟨_, l, by omega, rfl, (unhide hD).own⟩, (unhide hD).bel⟩
    · obtain ⟨k', rfl⟩ : ∃ k', k = k' + 1 := ⟨k - 1, by omega⟩
      obtain ⟨L, hL⟩ : ∃ L, l.length = L := ⟨_, rfl⟩
      rw [hL] at hcnt ht0 ht1
      have HLn := hide hL
      have L42 : L ≤ 42 := by omega
      clear hL
      go_wp2_with fail
      refine (pick_any w.heap.size _ 40 _ (by rw [unhide HLn]; omega) (by omega) (by omega) (unhide hD).cur).mono ?_
      rintro e w3 ⟨⟨r3, p0, p1, rfl⟩, hc3, hb3⟩
      have C3 := hide hc3
      have B3 := hide hb3
      clear hc3 hb3
      go_wp2_with fail
      refine (one_any w.heap.size _ 20 _ (by rw [unhide HLn]; omega) (by omega) (by omega) (unhide C3)).mono ?_
      rintro e w4 ⟨⟨b4, rfl⟩, hc4, hb4⟩
      have C4 := hide hc4
      have B4 := hide ((unhide B3).trans hb4)
      clear hc4 hb4 C3 B3
      cases b4
      · go_wp2_with fail
        refine (one_any w.heap.size _ 6 _ (by rw [unhide HLn]; omega) (by omega) (by omega) (unhide C4)).mono ?_
        rintro e w5 ⟨⟨b5, rfl⟩, hc5, hb5⟩
        have B5 := hide ((unhide B4).trans hb5)
        have O5 := hide ((unhide hD).own.kept (unhide B5).grow (.inr (fun e => by have := ((unhide hD).own.lt _ e).1; omega)))
        have C5 := hide (hc5.mono (show _ ≤ 10 + 6 * (L + 1) by rw [unhide HLn]; omega))
        have Bl := hide ((unhide hD).bel.trans ((unhide B5).below (Nat.le_refl _) (unhide hD).bel.size))
        have hz5 := (unhide C5).lt
        have lm : l.length + 1 ≤ maxLen := by rw [unhide HLn]; unfold maxLen; omega
        have lb : (l.length + 1) * 16 ≤ 140737488355328 := by rw [unhide HLn]; omega
        clear hc5 hb5 B4 C4
        go_wp2_with (at_builtin; refine wpList_append_own _ rfl _ _ 23 rfl (w.heap.size + 1) 31 i0 (.agg #[.int .i64 0, .bool false]) 2 16 Try.underlying23 hi hz0 hz1 hz2 rfl (by decide) _ _ _ rfl ((unhide O5).alloc _) ⟨_, 0, none⟩ 1 1 [.int .i64 (T + r3), .bool b5] rfl rfl (cellNew2 _ _ _ _ rfl) (fun x hx => by simp at hx; rcases hx with rfl | rfl <;> rfl) lm lb (by simp; omega) ?_; intro v' w6 hown hgrow _)
        refine ⟨⟨k', T + r3, l ++ [⟨T + r3, b5⟩], by simp, rfl, hide ⟨by simp only [List.length_append, List.length_singleton, unhide HLn]; omega, by simp only [List.length_append, List.length_singleton, unhide HLn]; omega, by simp only [List.length_append, List.length_singleton, unhide HLn]; omega, by rw [TrysV_snoc]; simpa [encTry] using hown, ?_, ?_⟩⟩, by simp [intOf]⟩
        · exact ((((unhide C5).keep (bAl (Below.refl _ _) _)).grown hgrow (fun g hg => by have := ((unhide O5).lt g hg).1; omega)).mono (by simp only [List.length_append, List.length_singleton, unhide HLn]; omega))
        · exact (bAl (unhide Bl) _).grown hgrow (by have := (unhide Bl).size; simp; omega) (fun g hg => by have := ((unhide O5).lt g hg).1; omega)
      · go_wp2_with fail
        refine (one_any w.heap.size _ 6 _ (by rw [unhide HLn]; omega) (by omega) (by omega) (unhide C4)).mono ?_
        rintro e w5 ⟨⟨b5, rfl⟩, hc5, hb5⟩
        have B5 := hide ((unhide B4).trans hb5)
        have O5 := hide ((unhide hD).own.kept (unhide B5).grow (.inr (fun e => by have := ((unhide hD).own.lt _ e).1; omega)))
        have C5 := hide (hc5.mono (show _ ≤ 10 + 6 * (L + 1) by rw [unhide HLn]; omega))
        have Bl := hide ((unhide hD).bel.trans ((unhide B5).below (Nat.le_refl _) (unhide hD).bel.size))
        have hz5 := (unhide C5).lt
        have lm : l.length + 1 ≤ maxLen := by rw [unhide HLn]; unfold maxLen; omega
        have lb : (l.length + 1) * 16 ≤ 140737488355328 := by rw [unhide HLn]; omega
        clear hc5 hb5 B4 C4
        go_wp2_with (at_builtin; refine wpList_append_own _ rfl _ _ 23 rfl (w.heap.size + 1) 31 i0 (.agg #[.int .i64 0, .bool false]) 2 16 Try.underlying23 hi hz0 hz1 hz2 rfl (by decide) _ _ _ rfl ((unhide O5).alloc _) ⟨_, 0, none⟩ 1 1 [.int .i64 (T + r3 - 60), .bool b5] rfl rfl (cellNew2 _ _ _ _ rfl) (fun x hx => by simp at hx; rcases hx with rfl | rfl <;> rfl) lm lb (by simp; omega) ?_; intro v' w6 hown hgrow _)
        refine ⟨⟨k', T + r3 - 60, l ++ [⟨T + r3 - 60, b5⟩], by simp, rfl, hide ⟨by simp only [List.length_append, List.length_singleton, unhide HLn]; omega, by simp only [List.length_append, List.length_singleton, unhide HLn]; omega, by simp only [List.length_append, List.length_singleton, unhide HLn]; omega, by rw [TrysV_snoc]; simpa [encTry] using hown, ?_, ?_⟩⟩, by simp [intOf]⟩
        · exact ((((unhide C5).keep (bAl (Below.refl _ _) _)).grown hgrow (fun g hg => by have := ((unhide O5).lt g hg).1; omega)).mono (by simp only [List.length_append, List.length_singleton, unhide HLn]; omega))
        · exact (bAl (unhide Bl) _).grown hgrow (by have := (unhide Bl).size; simp; omega) (fun g hg => by have := ((unhide O5).lt g hg).1; omega)
set_option maxHeartbeats 1000000 in
theorem zInts_same {w : World} {b1 b2 : Nat} {v1 v2 : Value} {l : List Int} (h1 : w.ownsRow b1 3 1 v1 l.length (l.map intV)) (h2 : w.ownsRow b2 3 1 v2 l.length (l.map intV)) (hl : l.length ≤ 1000000) :
    Calls Try.prog 6 #[v1, v2] w fun e w' => e = .returned (.bool true) ∧ Below w.heap.size w w' := by
  obtain ⟨a1, c1, rfl, s1⟩ := own_Int h1
  obtain ⟨a2, c2, rfl, s2⟩ := own_Int h2
  have S1 := hide s1
  have S2 := hide s2
  clear s1 s2 h1 h2
  obtain ⟨n, hn⟩ : ∃ n, l.length = n := ⟨_, rfl⟩
  rw [hn] at hl ⊢
  have HN := hide hn
  clear hn
  go_enter Try.func6, Try.ntmps6
  go_wp2_with fail
  go_loopw [13] (fun i w' => ∃ k : Nat, k ≤ n ∧ i = .int .i64 k ∧ Below w.heap.size w w') (fun i _ => n - (intOf i).toNat)
  case atStart => exact ⟨0, Nat.zero_le _, rfl, Below.refl _ _⟩
  case round =>
    obtain ⟨k, hk, rfl, hbel⟩ := hrel
    by_cases hlt : k < n
    · have hk' : k < l.length := by rw [unhide HN]; exact hlt
      have hne : l ≠ [] := fun e => by rw [e] at hk'; simp at hk'
      obtain ⟨b, rfl, z1, r1⟩ := (unhide S1).resolve_left hne
      obtain ⟨b', rfl, z2, r2⟩ := (unhide S2).resolve_left hne
      have p1 := cellB hbel z1 (r1 k hk')
      have p2 := cellB hbel z2 (r2 k hk')
      replace z1 := Nat.lt_of_lt_of_le z1 hbel.size
      replace z2 := Nat.lt_of_lt_of_le z2 hbel.size
      clear r1 r2 hne
      generalize l[k] = A at p1 p2
      have i0 : (0 : Int) ≤ (k : Int) := by omega
      have i1 : (k : Int) < (n : Int) := by omega
      have e0 : (A != A) = false := by simp
      have ne : Nonempty (Kept wr) := ⟨⟨wr, Below.refl _ _⟩⟩
      have x0 := kept_cell z1 p1
      have y0 := kept_cell z2 p2
      go_wp2_with fail
      refine wp_region_kept (by kernel_rfl) (by kernel_rfl) ?_
      repeat (first | go_big_quiet_step (fail) | quiet_step (fail))
      refine wpQuiet_nil ?_
      rintro _ ⟨q, rfl⟩
      clear ne x0 y0
      obtain ⟨w3, hb3⟩ := q
      go_wp2_with fail
      exact ⟨⟨k + 1, by omega, by go_num, bTr hbel hb3⟩, by simp [intOf]; omega⟩
    · go_wp2_with fail
      go_ret
      exact ⟨rfl, hbel⟩
theorem try_wrong {x : ThT} {t : Int} (hg : x.Good) (h1 : x.f2 ≤ t) (h2 : t ≤ 100000000000) (h3 : 3 ≤ (wrongT x t).f0) : tryT (wrongT x t) t true = (wrongT x t, 2) := by
  obtain ⟨⟨g0, g1⟩, ⟨g2, g3⟩, ⟨g4, g5⟩⟩ := hg
  have hl := lck_le (x.f0 - 2).toNat
  unfold wrongT at *
  split at h3
  · simp only at h3; omega
  · split at h3
    · rw [if_neg (by omega), if_pos (by assumption)]
      unfold tryT
      rw [if_pos (by unfold ThT.Good; simp only; omega), if_pos (by simp only; omega)]
    · rw [if_neg (by omega), if_neg (by assumption)]
      unfold tryT
      rw [if_pos (by unfold ThT.Good; simp only; omega), if_pos (by simp only; omega)]
theorem try_cases (x : ThT) (t : Int) (r : Bool) : tryT x t r = (⟨0, 0, 0⟩, -1) ∨ tryT x t r = (x, 2) ∨ (tryT x t r = (⟨0, 0, t⟩, 0) ∧ r = true) ∨ ∃ n, tryT x t r = (n, 1) ∧ (3 ≤ n.f0 → tryT n t true = (n, 2)) := by
  by_cases h : x.Good ∧ x.f2 ≤ t ∧ t ≤ 100000000000
  · by_cases h1 : t < x.f1
    · exact .inr (.inl (by unfold tryT; rw [if_pos h, if_pos h1]))
    · cases r
      · exact .inr (.inr (.inr ⟨wrongT x t, by unfold tryT; rw [if_pos h, if_neg h1]; rfl, fun h3 => try_wrong h.1 h.2.1 h.2.2 h3⟩))
      · exact .inr (.inr (.inl ⟨by unfold tryT; rw [if_pos h, if_neg h1]; rfl, rfl⟩))
  · exact .inl (by unfold tryT; rw [if_neg h])
/-- What the law knows behind k tries. -/
structure ThS (Wb : World) (l : List TryT) (k : Nat) (x : ThT) (pre : List Int) (w' : World) : Prop where
  box : RowIs w' Wb.heap.size #[.int .i64 x.f0, .int .i64 x.f1, .int .i64 x.f2] 29
  run : runT ⟨0, 0, 0⟩ l = pre ++ runT x (l.drop k)
  len : pre.length = k
  bel : Below Wb.heap.size Wb w'
theorem ThS.keep {Wb : World} {l : List TryT} {k : Nat} {x : ThT} {pre : List Int} {w' w1 : World} (h : ThS Wb l k x pre w') (hb : Below w'.heap.size w' w1) : ThS Wb l k x pre w1 := ⟨h.box.keep hb, h.run, h.len, bTr h.bel hb⟩
theorem ThS.put {Wb : World} {l : List TryT} {k : Nat} {x : ThT} {pre : List Int} {w' : World} (h : ThS Wb l k x pre w') (y : ThT) :
    RowIs (((w'.setCell ⟨Wb.heap.size, 0, none⟩ (.int .i64 y.f0)).setCell ⟨Wb.heap.size, 1, none⟩ (.int .i64 y.f1)).setCell ⟨Wb.heap.size, 2, none⟩ (.int .i64 y.f2)) Wb.heap.size #[.int .i64 y.f0, .int .i64 y.f1, .int .i64 y.f2] 29 ∧
    Below Wb.heap.size Wb (((w'.setCell ⟨Wb.heap.size, 0, none⟩ (.int .i64 y.f0)).setCell ⟨Wb.heap.size, 1, none⟩ (.int .i64 y.f1)).setCell ⟨Wb.heap.size, 2, none⟩ (.int .i64 y.f2)) :=
  ⟨th_row y h.box, ((h.bel.setCell (Nat.le_refl _) _).setCell (Nat.le_refl _) _).setCell (Nat.le_refl _) _⟩
theorem ThS.next {Wb : World} {l : List TryT} {k : Nat} {x y : ThT} {pre : List Int} {w' w1 : World} {z : Int} (h : ThS Wb l k x pre w') (hN : runT x (l.drop k) = z :: runT y (l.drop (k + 1))) (hb : RowIs w1 Wb.heap.size #[.int .i64 y.f0, .int .i64 y.f1, .int .i64 y.f2] 29) (hB : Below Wb.heap.size Wb w1) : ThS Wb l (k + 1) y (pre ++ [z]) w1 :=
  ⟨hb, by rw [h.run, hN]; simp, by simp [h.len], hB⟩
theorem cell_sets {w : World} {b g o : Nat} {v : Value} (x y z : Value) (h : g ≠ b) (e : w.cell? ⟨g, o, none⟩ = some v) :
    (((w.setCell ⟨b, 0, none⟩ x).setCell ⟨b, 1, none⟩ y).setCell ⟨b, 2, none⟩ z).cell? ⟨g, o, none⟩ = some v := by
  rw [← e]
  unfold World.cell?
  rw [heap_setCell_other _ _ _ _ (by first | exact h | exact h.symm), heap_setCell_other _ _ _ _ (by first | exact h | exact h.symm), heap_setCell_other _ _ _ _ (by first | exact h | exact h.symm)]
theorem iRunTries_x (a : Option Addr) (len cap : Nat) (l : List TryT) (w : World) (hl : len ≤ maxLen) (hs : SlTry w a len l) :
    Calls Try.prog 5 #[.slice a len cap] w fun e w' => (∃ v r, e = .returned v ∧ TriesIs l r ∧ w'.ownsRow w.heap.size 3 1 v r.length (r.map intV)) ∧ Below w.heap.size w w' := iRunTries_y a len cap l w hl hs
theorem sRunTries_x (a : Option Addr) (len cap : Nat) (l : List TryT) (w : World) (hl : len ≤ maxLen) (hs : SlTry w a len l) :
    Calls Try.prog 7 #[.slice a len cap] w fun e w' => (∃ v r, e = .returned v ∧ TriesIs l r ∧ w'.ownsRow w.heap.size 3 1 v r.length (r.map intV)) ∧ Below w.heap.size w w' := sRunTries_y a len cap l w hl hs
set_option maxHeartbeats 8000000 in
theorem thr_any (a : Option Addr) (len cap : Nat) (w : World) (hc : CodeAt w w.heap.size a len) :
    Calls Try.prog 3 #[.slice a len cap] w fun e w' => e = .returned (.bool true) ∧ Below w.heap.size w w' := by
  have hlm := hc.1
  unfold maxLen at hlm
  have qd := hide (drawRunTries_any a len cap w hc)
  clear hc
  by_cases h1 : (1048576 : Int) < (len : Int)
  · clear qd
    go_enter Try.func3, Try.ntmps3
    go_wp2_with fail
    go_ret
    exact ⟨rfl, Below.refl _ _⟩
  go_enter Try.func3, Try.ntmps3
  go_wp2_with fail
  refine (unhide qd).mono ?_
  rintro e w1 ⟨⟨v, l, hl, rfl, ho⟩, hb1⟩
  obtain ⟨la, lc, rfl, hsl⟩ := own_Try ho
  have HSL := hide hsl
  have B1 := hide hb1
  have hl9 := hide (show l.length ≤ maxLen by unfold maxLen; omega)
  clear qd ho hb1 hsl
  obtain ⟨ln, hln⟩ : ∃ n, l.length = n := ⟨_, rfl⟩
  have HLN := hide hln
  rw [hln] at hl HSL hl9 ⊢
  clear hln
  go_wp2_with fail
  refine (iRunTries_x la ln lc l w1 (unhide hl9) (unhide HSL)).mono ?_
  rintro e w2 ⟨⟨v2, r2, rfl, t2, o2⟩, hb2⟩
  have HSL2 := hide ((unhide HSL).keep hb2)
  have O2 := hide o2
  have B2 := hide (bTr (unhide B1) hb2)
  clear o2 hb2 HSL B1
  go_wp2_with fail
  refine (sRunTries_x la ln lc l w2 (unhide hl9) (unhide HSL2)).mono ?_
  rintro e w3 ⟨⟨v3, r3, rfl, t3, o3⟩, hb3⟩
  obtain rfl := t2.uniq t3
  have O2' := hide (own_keep (unhide O2) hb3)
  have HSL3 := hide ((unhide HSL2).keep hb3)
  have B3 := hide (bTr (unhide B2) hb3)
  have qz := hide (zInts_same (unhide O2') o3 (by have := t2.len; omega))
  have ER := hide t2.e
  clear o3 hb3 O2 HSL2 B2 t3 t2
  go_wp2_with fail
  refine (unhide qz).mono ?_
  rintro e w4 ⟨rfl, hb4⟩
  have HSL4 := hide ((unhide HSL3).keep hb4)
  have O4 := hide (own_keep (unhide O2') hb4)
  have B4 := hide (bTr (unhide B3) hb4)
  clear hb4 O2' HSL3 B3 qz
  obtain ⟨ia, ic, rfl, hints⟩ := own_Int (unhide O4)
  have HI := hide hints
  have ER2 : Hid (r2 = runT ⟨0, 0, 0⟩ l) := hide (by rw [unhide ER]; unfold runTs; rw [if_neg (by rw [unhide HLN]; omega)])
  have rl : r2.length = ln := by rw [unhide ER2, runT_len, unhide HLN]
  rw [rl]
  have RL := hide rl
  clear O4 hints ER rl
  obtain ⟨W5, hW5⟩ : ∃ W, W = w4.alloc (.cells #[.int .i64 0, .int .i64 0, .int .i64 0] 29) := ⟨_, rfl⟩
  have S5 := hide (show ThS w4 l 0 ⟨0, 0, 0⟩ [] W5 by rw [hW5]; exact ⟨RowIs.new _ _ _, by simp, rfl, bAl (Below.refl _ _) _⟩)
  have HW5 := hide hW5.symm
  clear hW5
  go_wp2_with fail
  rw [unhide HW5]
  go_loopw [27] (fun i w' => ∃ (k : Nat) (x : ThT) (pre : List Int), k ≤ ln ∧ i = .int .i64 k ∧ Hid (ThS w4 l k x pre w')) (fun i _ => ln - (intOf i).toNat)
  case atStart => exact ⟨0, ⟨0, 0, 0⟩, [], Nat.zero_le _, rfl, S5⟩
  case round =>
    obtain ⟨k, x, pre, hk, rfl, hS⟩ := hrel
    by_cases hlt : k < ln
    · obtain ⟨b, off, rfl, hrow⟩ := ((unhide HSL4).keep (unhide hS).bel).at hlt
      have hk' : k < l.length := by rw [unhide HLN]; exact hlt
      have c0 := hrow.c0 k hk'
      have c1 := hrow.c1 k hk'
      have hzb := hrow.z
      have hN := hide (thNext (x := x) hk' rfl)
      have hne : r2 ≠ [] := fun e => by have := unhide RL; rw [e] at this; simp at this; omega
      obtain ⟨ib, rfl, iz, ir⟩ := (unhide HI).resolve_left hne
      have hkr : k < r2.length := by rw [unhide RL]; exact hlt
      have d0 := cellB (unhide hS).bel iz (ir k hkr)
      have hz : Hid (r2[k] = (tryT x l[k].f0 l[k].f1).2) := hide (by
        have e1 := (unhide ER2).trans (unhide hS).run
        rw [unhide hN] at e1
        have e2 : r2[k]? = some (tryT x l[k].f0 l[k].f1).2 := by rw [e1, List.getElem?_append_right (by rw [(unhide hS).len]; omega), (unhide hS).len]; simp
        rw [List.getElem?_eq_getElem hkr] at e2
        exact Option.some.inj e2)
      rw [unhide hz] at d0
      replace iz := Nat.lt_of_lt_of_le iz (unhide hS).bel.size
      clear hz ir hne hrow
      generalize l[k] = y at c0 c1 hN d0
      obtain ⟨y0, y1⟩ := y
      simp only at c0 c1 hN d0
      have q := hide (iTryOnce_any x y0 y1)
      have i0' : (0 : Int) ≤ (k : Int) := by omega
      have i1 : (k : Int) < (ln : Int) := by omega
      obtain ⟨t0, t1, t2⟩ := th_cells (unhide hS).box
      have tz := (unhide hS).box.lt
      obtain ⟨W1, hW1⟩ : ∃ W, W = wr.alloc (.cells #[.int .i64 y0, .bool y1] 31) := ⟨_, rfl⟩
      have b1 : Below wr.heap.size wr W1 := by rw [hW1]; exact bAl (Below.refl _ _) _
      have R1 := hide (show RowIs W1 wr.heap.size #[.int .i64 y0, .bool y1] 31 by rw [hW1]; exact RowIs.new _ _ _)
      have S1 := hide ((unhide hS).keep b1)
      have HW1 := hide hW1.symm
      have hI1 := cellB b1 iz d0
      clear hW1
      unfold ThT.v at q
      go_wp2_with fail
      rw [unhide HW1]
      refine (unhide q _).mono ?_
      rintro e w2 ⟨rfl, hb2⟩
      replace hI1 := cellB hb2 (Nat.lt_of_lt_of_le iz b1.size) hI1
      have S2 := hide ((unhide S1).keep hb2)
      have iz2 := Nat.lt_of_lt_of_le (Nat.lt_of_lt_of_le iz b1.size) hb2.size
      have R2 := (unhide R1).keep hb2
      have r0 : w2.cell? ⟨wr.heap.size, 0, none⟩ = some (.int .i64 y0) := R2.at rfl
      have r1 : w2.cell? ⟨wr.heap.size, 1, none⟩ = some (.bool y1) := R2.at rfl
      have rz := R2.lt
      have nq : wr.heap.size ≠ w4.heap.size := by have := tz; omega
      clear c0 c1 hzb t0 t1 t2 tz q hb2 R1 R2 S1 HW1 b1 iz d0
      obtain ⟨t0, t1, t2⟩ := th_cells (unhide S2).box
      have tz := (unhide S2).box.lt
      have f0 := (unhide S2).box.froz 0
      have f1 := (unhide S2).box.froz 1
      have f2 := (unhide S2).box.froz 2
      rcases try_cases x y0 y1 with e | e | ⟨e, rfl⟩ | ⟨n, e, he⟩ <;> rw [e] at hI1 hN ⊢ <;> dsimp only at hI1 hN ⊢
      · rw [if_pos rfl] at hN
        go_wp2_with fail
        exact ⟨⟨k + 1, x, pre ++ [-1], by omega, by go_num, hide ((unhide S2).next (unhide hN) ((unhide S2).box.keep (bAl (Below.refl _ _) _)) (bAl (unhide S2).bel _))⟩, by simp [intOf]; omega⟩
      · rw [if_neg (by omega)] at hN
        have P := hide ((unhide S2).put x)
        go_wp2_with fail
        exact ⟨⟨k + 1, x, pre ++ [2], by omega, by go_num, hide ((unhide S2).next (unhide hN) ((unhide P).1.keep (bAl (Below.refl _ _) _)) (bAl (unhide P).2 _))⟩, by simp [intOf]; omega⟩
      · rw [if_neg (by omega)] at hN
        have P := hide ((unhide S2).put ⟨0, 0, y0⟩)
        have p0 := cell_sets (.int .i64 0) (.int .i64 0) (.int .i64 y0) nq r0
        have p1 := cell_sets (.int .i64 0) (.int .i64 0) (.int .i64 y0) nq r1
        go_wp2_with fail
        exact ⟨⟨k + 1, ⟨0, 0, y0⟩, pre ++ [0], by omega, by go_num, hide ((unhide S2).next (unhide hN) ((unhide P).1.keep (bAl (Below.refl _ _) _)) (bAl (unhide P).2 _))⟩, by simp [intOf]; omega⟩
      · rw [if_neg (by omega)] at hN
        have P := hide ((unhide S2).put n)
        by_cases h3 : 3 ≤ n.f0
        · have q2 := hide (iTryOnce_any n y0 true)
          rw [he h3] at q2
          unfold ThT.v at q2
          have p0 := cell_sets (.int .i64 n.f0) (.int .i64 n.f1) (.int .i64 n.f2) nq r0
          have p1 := cell_sets (.int .i64 n.f0) (.int .i64 n.f1) (.int .i64 n.f2) nq r1
          go_wp2_with fail
          refine (unhide q2 _).mono ?_
          rintro e w5 ⟨rfl, hb5⟩
          have PK := hide (((unhide P).1.keep (bAl (Below.refl _ _) (.cells #[.int .i64 n.f0, .int .i64 n.f1, .int .i64 n.f2] 29))).keep hb5)
          have PB := hide (bTr (bAl (unhide P).2 (.cells #[.int .i64 n.f0, .int .i64 n.f1, .int .i64 n.f2] 29)) hb5)
          clear p0 p1 q2 hb5
          go_wp2_with fail
          exact ⟨⟨k + 1, n, pre ++ [1], by omega, by go_num, hide ((unhide S2).next (unhide hN) ((unhide PK).keep (bAl (Below.refl _ _) _)) (bAl (unhide PB) _))⟩, by simp [intOf]; omega⟩
        · go_wp2_with fail
          exact ⟨⟨k + 1, n, pre ++ [1], by omega, by go_num, hide ((unhide S2).next (unhide hN) ((unhide P).1.keep (bAl (Below.refl _ _) _)) (bAl (unhide P).2 _))⟩, by simp [intOf]; omega⟩
    · go_wp2_with fail
      go_ret
      exact ⟨rfl, (unhide B4).trans ((unhide hS).bel.mono (unhide B4).size)⟩
end Go.Proofs.Ytgdpbdgbkeghlaa.C
