/- RunTries on both sides. -/
import Derived.Test.YtgdpbdgbkeghlaaKTa
import Derived.Test.YtgdpbdgbkeghlaaKMt
import Derived.Test.YtgdpbdgbkeghlaaKEi
import Derived.Laws.AppendOwn
namespace Go.Proofs.Ytgdpbdgbkeghlaa
open Go.RowKit

/-- The outcomes of tries, from a throttle on. -/
def runT : ThT → List TryT → List Int
  | _, [] => []
  | x, y :: l => (tryT x y.f0 y.f1).2 :: runT (if (tryT x y.f0 y.f1).2 = -1 then x else (tryT x y.f0 y.f1).1) l
def runTs (l : List TryT) : List Int := if 1000 < l.length then [] else runT ⟨0, 0, 0⟩ l
theorem own_monoI {w : World} {base base' n : Nat} {v : Value} {xs : List Value} (h : w.ownsRow base 3 1 v n xs) (hb : base' ≤ base) : w.ownsRow base' 3 1 v n xs :=
  ⟨h.1, h.2.imp_right fun ⟨g, cp, cur, h1, h2, h3⟩ => ⟨g, cp, cur, h1, Nat.le_trans hb h2, h3⟩⟩
structure TriesIs (l : List TryT) (r : List Int) : Prop where
  e : r = runTs l
theorem runT_len : ∀ (l : List TryT) (x : ThT), (runT x l).length = l.length
  | [], _ => rfl
  | _ :: l, _ => by simp [runT, runT_len l]
theorem TriesIs.uniq {l : List TryT} {r r' : List Int} (h : TriesIs l r) (h' : TriesIs l r') : r = r' := h.e.trans h'.e.symm
theorem TriesIs.len {l : List TryT} {r : List Int} (h : TriesIs l r) : r.length ≤ 1000 := by
  rw [h.e]; unfold runTs; split
  · simp
  · rw [runT_len]; omega

theorem cellNew (w : World) (v : Value) (T : TypeId) {b : Nat} (hb : w.heap.size = b) : ∀ j u, ([v] : List Value)[j]? = some u → (w.alloc (.cells #[v] T)).cell? ((⟨b, 0, none⟩ : Addr).add j) = some u := by
  subst hb
  intro j u hj
  cases j with
  | zero =>
    simp at hj
    subst hj
    exact (RowIs.new w #[v] T).at rfl
  | succ j => simp at hj
theorem info_int : (Try.prog.info? 3).map (fun i => (i.zero, i.size, i.bytes)) = some (some (.int .i64 0), 1, 8) := by kernel_rfl
theorem tryT_out (x : ThT) (t : Int) (r : Bool) : (tryT x t r).2 = -1 ∨ 0 ≤ (tryT x t r).2 := by
  unfold tryT
  split
  · right
    split
    · simp
    · split <;> simp
  · left; rfl
theorem thNext {x : ThT} {y : TryT} : ∀ {l : List TryT} {k : Nat} (hk : k < l.length), l[k] = y → runT x (l.drop k) = (tryT x y.f0 y.f1).2 :: runT (if (tryT x y.f0 y.f1).2 = -1 then x else (tryT x y.f0 y.f1).1) (l.drop (k + 1)) := by
  intro l k hk e
  rw [List.drop_eq_getElem_cons hk, e]; rfl
theorem th_row {w : World} {b T : Nat} {x : ThT} (y : ThT) (h : RowIs w b #[.int .i64 x.f0, .int .i64 x.f1, .int .i64 x.f2] T) :
    RowIs (((w.setCell ⟨b, 0, none⟩ (.int .i64 y.f0)).setCell ⟨b, 1, none⟩ (.int .i64 y.f1)).setCell ⟨b, 2, none⟩ (.int .i64 y.f2)) b #[.int .i64 y.f0, .int .i64 y.f1, .int .i64 y.f2] T :=
  ((h.set 0 (.int .i64 y.f0)).set 1 (.int .i64 y.f1)).set 2 (.int .i64 y.f2)
theorem th_cells {w : World} {b T : Nat} {x : ThT} (h : RowIs w b #[.int .i64 x.f0, .int .i64 x.f1, .int .i64 x.f2] T) :
    w.cell? ⟨b, 0, none⟩ = some (.int .i64 x.f0) ∧ w.cell? ⟨b, 1, none⟩ = some (.int .i64 x.f1) ∧ w.cell? ⟨b, 2, none⟩ = some (.int .i64 x.f2) := ⟨h.at rfl, h.at rfl, h.at rfl⟩
theorem th_grow {w : World} {b : Nat} (x y z : Value) : w.grownBy (((w.setCell ⟨b, 0, none⟩ x).setCell ⟨b, 1, none⟩ y).setCell ⟨b, 2, none⟩ z) (some b) :=
  ((gSet w b 0 x).trans (gSet _ b 1 y)).trans (gSet _ b 2 z)
/-- What lies behind k tries: the throttle in its box, the outcomes so far. -/
structure TrySt (w : World) (l : List TryT) (k : Nat) (v : Value) (w' : World) (x : ThT) (r : List Int) : Prop where
  box : RowIs w' w.heap.size #[.int .i64 x.f0, .int .i64 x.f1, .int .i64 x.f2] 29
  own : w'.ownsRow (w.heap.size + 1) 3 1 v r.length (r.map intV)
  run : runT ⟨0, 0, 0⟩ l = r ++ runT x (l.drop k)
  len : r.length = k
  bel : Below w.heap.size w w'
theorem TrySt.keep {w : World} {l : List TryT} {k : Nat} {v : Value} {w' w1 : World} {x : ThT} {r : List Int} (h : TrySt w l k v w' x r) (hb : Below w'.heap.size w' w1) : TrySt w l k v w1 x r :=
  ⟨h.box.keep hb, own_keep h.own hb, h.run, h.len, bTr h.bel hb⟩
theorem TrySt.put {w : World} {l : List TryT} {k : Nat} {v : Value} {w' : World} {x : ThT} {r : List Int} (h : TrySt w l k v w' x r) (y : ThT) :
    w.heap.size < w'.heap.size ∧ (∀ o, w'.frozen? ⟨w.heap.size, o, none⟩ = false) ∧
    RowIs (((w'.setCell ⟨w.heap.size, 0, none⟩ (.int .i64 y.f0)).setCell ⟨w.heap.size, 1, none⟩ (.int .i64 y.f1)).setCell ⟨w.heap.size, 2, none⟩ (.int .i64 y.f2)) w.heap.size #[.int .i64 y.f0, .int .i64 y.f1, .int .i64 y.f2] 29 ∧
    (((w'.setCell ⟨w.heap.size, 0, none⟩ (.int .i64 y.f0)).setCell ⟨w.heap.size, 1, none⟩ (.int .i64 y.f1)).setCell ⟨w.heap.size, 2, none⟩ (.int .i64 y.f2)).ownsRow (w.heap.size + 1) 3 1 v r.length (r.map intV) ∧
    Below w.heap.size w (((w'.setCell ⟨w.heap.size, 0, none⟩ (.int .i64 y.f0)).setCell ⟨w.heap.size, 1, none⟩ (.int .i64 y.f1)).setCell ⟨w.heap.size, 2, none⟩ (.int .i64 y.f2)) :=
  ⟨h.box.lt, fun o => h.box.froz o, th_row y h.box, h.own.kept (th_grow _ _ _) (.inr (fun e => by have := (h.own.lt _ e).1; omega)), ((h.bel.setCell (Nat.le_refl _) _).setCell (Nat.le_refl _) _).setCell (Nat.le_refl _) _⟩
theorem TrySt.more {w : World} {l : List TryT} {k : Nat} {v : Value} {w' w3 : World} {x y : ThT} {r : List Int} {z : Int} {u : Value} (h : runT ⟨0, 0, 0⟩ l = r ++ runT x (l.drop k)) (hl : r.length = k) (hN : runT x (l.drop k) = z :: runT y (l.drop (k + 1)))
    (hb : RowIs w' w.heap.size #[.int .i64 y.f0, .int .i64 y.f1, .int .i64 y.f2] 29) (hB : Below w.heap.size w w') (ho : w'.ownsRow (w.heap.size + 1) 3 1 v r.length (r.map intV))
    (hown : w3.ownsRow (w.heap.size + 1) 3 1 u (r.length + 1) (r.map intV ++ [intV z])) (hg : w'.grownBy w3 v.ownBlock) : TrySt w l (k + 1) u w3 y (r ++ [z]) :=
  ⟨row_grown hb hg (fun e => by have := (ho.lt _ e.symm).1; omega), by simpa using hown, by rw [h, hN]; simp, by simp [hl], hB.grown hg hB.size (fun j hj => by have := (ho.lt j hj).1; omega)⟩
set_option maxRecDepth 20000 in
set_option maxHeartbeats 2000000 in
theorem iRunTries_y (a : Option Addr) (len cap : Nat) (l : List TryT) (w : World) (hl : len ≤ maxLen) (hs : SlTry w a len l) :
    Calls Try.prog 5 #[.slice a len cap] w fun e w' => (∃ v r, e = .returned v ∧ TriesIs l r ∧ w'.ownsRow w.heap.size 3 1 v r.length (r.map intV)) ∧ Below w.heap.size w w' := by
  unfold maxLen at hl
  obtain ⟨i0, hi, hz⟩ := Option.map_eq_some_iff.1 info_int
  simp only [Prod.mk.injEq] at hz
  obtain ⟨hz0, hz1, hz2⟩ := hz
  by_cases hlen : 1000 < len
  · have e : runTs l = [] := by unfold runTs; rw [if_pos (by rw [← hs.1]; exact hlen)]
    have E := hide (show TriesIs l [] from ⟨e.symm⟩)
    clear e hs hi hz0 hz1 hz2
    go_enter Try.func5, Try.ntmps5
    go_wp2_with fail
    go_ret
    exact ⟨⟨_, [], rfl, unhide E, World.ownsRow_nil _ _ _ _⟩, Below.refl _ _⟩
  have hl1 : len ≤ 1000 := by omega
  have HS := hide hs
  have HI := hide hi
  have E := hide (show runTs l = runT ⟨0, 0, 0⟩ l by unfold runTs; rw [if_neg (by rw [← hs.1]; exact hlen)])
  have T0 : Hid (TrySt w l 0 (.slice none 0 0) (w.alloc (.cells #[.int .i64 0, .int .i64 0, .int .i64 0] 29)) ⟨0, 0, 0⟩ []) :=
    hide ⟨RowIs.new _ _ _, World.ownsRow_nil _ _ _ _, by simp, rfl, bAl (Below.refl _ _) _⟩
  clear hs hl
  go_enter Try.func5, Try.ntmps5
  go_wp2_with fail
  go_loopw [4, 14] (fun v i w' => ∃ (k : Nat) (x : ThT) (r : List Int), k ≤ len ∧ i = .int .i64 k ∧ Hid (TrySt w l k v w' x r)) (fun _ i _ => len - (intOf i).toNat)
  case atStart => exact ⟨0, ⟨0, 0, 0⟩, [], Nat.zero_le _, rfl, T0⟩
  case round =>
    obtain ⟨k, x, r, hk, rfl, hT⟩ := hrel
    by_cases hlt : k < len
    · obtain ⟨b, off, rfl, hrow⟩ := ((unhide HS).keep (unhide hT).bel).at hlt
      have hk' : k < l.length := by rw [← (unhide HS).1]; exact hlt
      have c0 := hrow.c0 k hk'
      have c1 := hrow.c1 k hk'
      have hzb := hrow.z
      have hN := hide (thNext (x := x) hk' rfl)
      clear hrow
      generalize l[k] = y at c0 c1 hN
      obtain ⟨y0, y1⟩ := y
      simp only at c0 c1 hN
      have q := hide (iTryOnce_any x y0 y1)
      have hzz := tryT_out x y0 y1
      generalize hz : (tryT x y0 y1).2 = z at q hN hzz
      generalize hn : (tryT x y0 y1).1 = n at q hN
      clear hz hn
      have i0' : (0 : Int) ≤ (k : Int) := by omega
      have i1 : (k : Int) < (len : Int) := by omega
      obtain ⟨W1, hW1⟩ : ∃ W, W = wr.alloc (.cells #[.int .i64 y0, .bool y1] 31) := ⟨_, rfl⟩
      have B1 : Below wr.heap.size wr W1 := by rw [hW1]; exact bAl (Below.refl _ _) _
      have R1 := hide (show RowIs W1 wr.heap.size #[.int .i64 y0, .bool y1] 31 by rw [hW1]; exact RowIs.new _ _ _)
      have T1 := hide ((unhide hT).keep B1)
      have HW1 := hide hW1.symm
      obtain ⟨t0, t1, t2⟩ := th_cells (unhide hT).box
      have tz := (unhide hT).box.lt
      unfold ThT.v at q
      clear B1 hW1
      go_wp2_with fail
      rw [unhide HW1]
      refine (unhide q _).mono ?_
      rintro e w2 ⟨rfl, hb2⟩
      replace T1 := hide ((unhide T1).keep hb2)
      clear c0 c1 hzb t0 t1 t2 tz q hb2 R1
      obtain ⟨W3, hW3⟩ : ∃ W, W = w2.alloc (.cells #[.int .i64 n.f0, .int .i64 n.f1, .int .i64 n.f2] 29) := ⟨_, rfl⟩
      have B3 : Below w2.heap.size w2 W3 := by rw [hW3]; exact bAl (Below.refl _ _) _
      have z3 := hide (show W3.heap.size = w2.heap.size + 1 by rw [hW3]; simp)
      have R3 := hide (show RowIs W3 w2.heap.size #[.int .i64 n.f0, .int .i64 n.f1, .int .i64 n.f2] 29 by rw [hW3]; exact RowIs.new _ _ _)
      have T3 := hide ((unhide T1).keep B3)
      have HW3 := hide hW3.symm
      obtain ⟨t0, t1, t2⟩ := th_cells (unhide T1).box
      have tz := (unhide T1).box.lt
      have f0 := (unhide T1).box.froz 0
      have f1 := (unhide T1).box.froz 1
      have f2 := (unhide T1).box.froz 2
      clear B3 hW3
      rcases hzz with rfl | hz
      · rw [if_pos rfl] at hN
        go_wp2_with (at_builtin; rw [unhide HW3]; (refine wpList_append_own _ rfl _ _ 25 rfl (w.heap.size + 1) 3 i0 (.int .i64 0) 1 8 Try.underlying25 hi hz0 hz1 hz2 rfl (by decide) _ _ _ rfl ((unhide T3).own.alloc _) ⟨_, 0, none⟩ 1 1 [intV (-1)] rfl rfl (cellNew _ _ _ (unhide z3)) (fun x hx => by simp at hx; subst hx; rfl) (by unfold maxLen; have := (unhide T3).len; omega) (by have := (unhide T3).len; omega) (by have := (unhide T3).box.lt; simp; omega) ?_); intro v' w4 hown hgrow _)
        exact ⟨⟨k + 1, x, r ++ [-1], by omega, by go_num, hide (TrySt.more (unhide T3).run (unhide T3).len (unhide hN) ((unhide T3).box.keep (bAl (Below.refl _ _) _)) (bAl (unhide T3).bel _) ((unhide T3).own.alloc _) hown hgrow)⟩, by simp [intOf]; omega⟩
      · rw [if_neg (by omega)] at hN
        have P := hide ((unhide T1).put n)
        have dz : decide (z = -1) = false := by simp; omega
        obtain ⟨W4, hW4⟩ : ∃ W, (((w2.setCell ⟨w.heap.size, 0, none⟩ (.int .i64 n.f0)).setCell ⟨w.heap.size, 1, none⟩ (.int .i64 n.f1)).setCell ⟨w.heap.size, 2, none⟩ (.int .i64 n.f2)) = W := ⟨_, rfl⟩
        rw [hW4] at P
        have z4 := hide (show (W4.alloc (.cells #[.int .i64 n.f0, .int .i64 n.f1, .int .i64 n.f2] 29)).heap.size = w2.heap.size + 1 by rw [← hW4]; simp)
        have HW4 := hide hW4
        clear hW4
        go_wp2_with (at_builtin; rw [unhide HW4]; (refine wpList_append_own _ rfl _ _ 25 rfl (w.heap.size + 1) 3 i0 (.int .i64 0) 1 8 Try.underlying25 hi hz0 hz1 hz2 rfl (by decide) _ _ _ rfl (((unhide P).2.2.2.1.alloc _).alloc _) ⟨_, 0, none⟩ 1 1 [intV z] rfl rfl (cellNew _ _ _ (unhide z4)) (fun x hx => by simp at hx; subst hx; rfl) (by unfold maxLen; have := (unhide T3).len; omega) (by have := (unhide T3).len; omega) (by have := (unhide P).2.2.1.lt; simp; omega) ?_); intro v' w4 hown hgrow _)
        exact ⟨⟨k + 1, n, r ++ [z], by omega, by go_num, hide (TrySt.more (unhide T3).run (unhide T3).len (unhide hN) (((unhide P).2.2.1.keep (bAl (Below.refl _ _) _)).keep (bAl (Below.refl _ _) _)) (bAl (bAl (unhide P).2.2.2.2 _) _) (((unhide P).2.2.2.1.alloc _).alloc _) hown hgrow)⟩, by simp [intOf]; omega⟩
    · go_wp2_with fail
      go_ret
      have e : k = l.length := by rw [← (unhide HS).1]; omega
      have hr := (unhide hT).run
      rw [e, List.drop_length] at hr
      exact ⟨⟨_, r, rfl, ⟨by rw [unhide E, hr]; simp [runT]⟩, own_monoI (unhide hT).own (by omega)⟩, (unhide hT).bel⟩
set_option maxRecDepth 20000 in
set_option maxHeartbeats 2000000 in
theorem sRunTries_y (a : Option Addr) (len cap : Nat) (l : List TryT) (w : World) (hl : len ≤ maxLen) (hs : SlTry w a len l) :
    Calls Try.prog 7 #[.slice a len cap] w fun e w' => (∃ v r, e = .returned v ∧ TriesIs l r ∧ w'.ownsRow w.heap.size 3 1 v r.length (r.map intV)) ∧ Below w.heap.size w w' := by
  unfold maxLen at hl
  obtain ⟨i0, hi, hz⟩ := Option.map_eq_some_iff.1 info_int
  simp only [Prod.mk.injEq] at hz
  obtain ⟨hz0, hz1, hz2⟩ := hz
  by_cases hlen : 1000 < len
  · have e : runTs l = [] := by unfold runTs; rw [if_pos (by rw [← hs.1]; exact hlen)]
    have E := hide (show TriesIs l [] from ⟨e.symm⟩)
    clear e hs hi hz0 hz1 hz2
    go_enter Try.func7, Try.ntmps7
    go_wp2_with fail
    go_ret
    exact ⟨⟨_, [], rfl, unhide E, World.ownsRow_nil _ _ _ _⟩, Below.refl _ _⟩
  have hl1 : len ≤ 1000 := by omega
  have HS := hide hs
  have HI := hide hi
  have E := hide (show runTs l = runT ⟨0, 0, 0⟩ l by unfold runTs; rw [if_neg (by rw [← hs.1]; exact hlen)])
  have T0 : Hid (TrySt w l 0 (.slice none 0 0) (w.alloc (.cells #[.int .i64 0, .int .i64 0, .int .i64 0] 29)) ⟨0, 0, 0⟩ []) :=
    hide ⟨RowIs.new _ _ _, World.ownsRow_nil _ _ _ _, by simp, rfl, bAl (Below.refl _ _) _⟩
  clear hs hl
  go_enter Try.func7, Try.ntmps7
  go_wp2_with fail
  go_loopw [3, 15] (fun v i w' => ∃ (k : Nat) (x : ThT) (r : List Int), k ≤ len ∧ i = .int .i64 k ∧ Hid (TrySt w l k v w' x r)) (fun _ i _ => len - (intOf i).toNat)
  case atStart => exact ⟨0, ⟨0, 0, 0⟩, [], Nat.zero_le _, rfl, T0⟩
  case round =>
    obtain ⟨k, x, r, hk, rfl, hT⟩ := hrel
    by_cases hlt : k < len
    · obtain ⟨b, off, rfl, hrow⟩ := ((unhide HS).keep (unhide hT).bel).at hlt
      have hk' : k < l.length := by rw [← (unhide HS).1]; exact hlt
      have c0 := hrow.c0 k hk'
      have c1 := hrow.c1 k hk'
      have hzb := hrow.z
      have hN := hide (thNext (x := x) hk' rfl)
      clear hrow
      generalize l[k] = y at c0 c1 hN
      obtain ⟨y0, y1⟩ := y
      simp only at c0 c1 hN
      have q := hide (sTryOnce_any x y0 y1)
      have hzz := tryT_out x y0 y1
      generalize hz : (tryT x y0 y1).2 = z at q hN hzz
      generalize hn : (tryT x y0 y1).1 = n at q hN
      clear hz hn
      have i0' : (0 : Int) ≤ (k : Int) := by omega
      have i1 : (k : Int) < (len : Int) := by omega
      obtain ⟨W1, hW1⟩ : ∃ W, W = wr.alloc (.cells #[.int .i64 y0, .bool y1] 31) := ⟨_, rfl⟩
      have B1 : Below wr.heap.size wr W1 := by rw [hW1]; exact bAl (Below.refl _ _) _
      have R1 := hide (show RowIs W1 wr.heap.size #[.int .i64 y0, .bool y1] 31 by rw [hW1]; exact RowIs.new _ _ _)
      have T1 := hide ((unhide hT).keep B1)
      have HW1 := hide hW1.symm
      obtain ⟨t0, t1, t2⟩ := th_cells (unhide hT).box
      have tz := (unhide hT).box.lt
      unfold ThT.v at q
      clear B1 hW1
      go_wp2_with fail
      rw [unhide HW1]
      refine (unhide q _).mono ?_
      rintro e w2 ⟨rfl, hb2⟩
      replace T1 := hide ((unhide T1).keep hb2)
      clear c0 c1 hzb t0 t1 t2 tz q hb2 R1
      obtain ⟨W3, hW3⟩ : ∃ W, W = w2.alloc (.cells #[.int .i64 n.f0, .int .i64 n.f1, .int .i64 n.f2] 29) := ⟨_, rfl⟩
      have B3 : Below w2.heap.size w2 W3 := by rw [hW3]; exact bAl (Below.refl _ _) _
      have z3 := hide (show W3.heap.size = w2.heap.size + 1 by rw [hW3]; simp)
      have R3 := hide (show RowIs W3 w2.heap.size #[.int .i64 n.f0, .int .i64 n.f1, .int .i64 n.f2] 29 by rw [hW3]; exact RowIs.new _ _ _)
      have T3 := hide ((unhide T1).keep B3)
      have HW3 := hide hW3.symm
      obtain ⟨t0, t1, t2⟩ := th_cells (unhide T1).box
      have tz := (unhide T1).box.lt
      have f0 := (unhide T1).box.froz 0
      have f1 := (unhide T1).box.froz 1
      have f2 := (unhide T1).box.froz 2
      clear B3 hW3
      rcases hzz with rfl | hz
      · rw [if_pos rfl] at hN
        go_wp2_with (at_builtin; rw [unhide HW3]; (refine wpList_append_own _ rfl _ _ 25 rfl (w.heap.size + 1) 3 i0 (.int .i64 0) 1 8 Try.underlying25 hi hz0 hz1 hz2 rfl (by decide) _ _ _ rfl ((unhide T3).own.alloc _) ⟨_, 0, none⟩ 1 1 [intV (-1)] rfl rfl (cellNew _ _ _ (unhide z3)) (fun x hx => by simp at hx; subst hx; rfl) (by unfold maxLen; have := (unhide T3).len; omega) (by have := (unhide T3).len; omega) (by have := (unhide T3).box.lt; simp; omega) ?_); intro v' w4 hown hgrow _)
        exact ⟨⟨k + 1, x, r ++ [-1], by omega, by go_num, hide (TrySt.more (unhide T3).run (unhide T3).len (unhide hN) ((unhide T3).box.keep (bAl (Below.refl _ _) _)) (bAl (unhide T3).bel _) ((unhide T3).own.alloc _) hown hgrow)⟩, by simp [intOf]; omega⟩
      · rw [if_neg (by omega)] at hN
        have P := hide ((unhide T1).put n)
        have dz : decide (z = -1) = false := by simp; omega
        obtain ⟨W4, hW4⟩ : ∃ W, (((w2.setCell ⟨w.heap.size, 0, none⟩ (.int .i64 n.f0)).setCell ⟨w.heap.size, 1, none⟩ (.int .i64 n.f1)).setCell ⟨w.heap.size, 2, none⟩ (.int .i64 n.f2)) = W := ⟨_, rfl⟩
        rw [hW4] at P
        have z4 := hide (show (W4.alloc (.cells #[.int .i64 n.f0, .int .i64 n.f1, .int .i64 n.f2] 29)).heap.size = w2.heap.size + 1 by rw [← hW4]; simp)
        have HW4 := hide hW4
        clear hW4
        go_wp2_with (at_builtin; rw [unhide HW4]; (refine wpList_append_own _ rfl _ _ 25 rfl (w.heap.size + 1) 3 i0 (.int .i64 0) 1 8 Try.underlying25 hi hz0 hz1 hz2 rfl (by decide) _ _ _ rfl (((unhide P).2.2.2.1.alloc _).alloc _) ⟨_, 0, none⟩ 1 1 [intV z] rfl rfl (cellNew _ _ _ (unhide z4)) (fun x hx => by simp at hx; subst hx; rfl) (by unfold maxLen; have := (unhide T3).len; omega) (by have := (unhide T3).len; omega) (by have := (unhide P).2.2.1.lt; simp; omega) ?_); intro v' w4 hown hgrow _)
        exact ⟨⟨k + 1, n, r ++ [z], by omega, by go_num, hide (TrySt.more (unhide T3).run (unhide T3).len (unhide hN) (((unhide P).2.2.1.keep (bAl (Below.refl _ _) _)).keep (bAl (Below.refl _ _) _)) (bAl (bAl (unhide P).2.2.2.2 _) _) (((unhide P).2.2.2.1.alloc _).alloc _) hown hgrow)⟩, by simp [intOf]; omega⟩
    · go_wp2_with fail
      go_ret
      have e : k = l.length := by rw [← (unhide HS).1]; omega
      have hr := (unhide hT).run
      rw [e, List.drop_length] at hr
      exact ⟨⟨_, r, rfl, ⟨by rw [unhide E, hr]; simp [runT]⟩, own_monoI (unhide hT).own (by omega)⟩, (unhide hT).bel⟩
theorem iRunTries_any (a : Option Addr) (len cap : Nat) (l : List TryT) (w : World) (hl : len ≤ maxLen) (hs : SlTry w a len l) (_hok : ∀ q ∈ l, TryT.Ok q) :
    Calls Try.prog 5 #[.slice a len cap] w fun e w' => (∃ v r, e = .returned v ∧ TriesIs l r ∧ w'.ownsRow w.heap.size 3 1 v r.length (r.map intV)) ∧ Below w.heap.size w w' := iRunTries_y a len cap l w hl hs
theorem sRunTries_any (a : Option Addr) (len cap : Nat) (l : List TryT) (w : World) (hl : len ≤ maxLen) (hs : SlTry w a len l) (_hok : ∀ q ∈ l, TryT.Ok q) :
    Calls Try.prog 7 #[.slice a len cap] w fun e w' => (∃ v r, e = .returned v ∧ TriesIs l r ∧ w'.ownsRow w.heap.size 3 1 v r.length (r.map intV)) ∧ Below w.heap.size w w' := sRunTries_y a len cap l w hl hs
end Go.Proofs.Ytgdpbdgbkeghlaa
