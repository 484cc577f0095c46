/- impl.SessConf in memory, by what it holds: sized, copied, held against itself, read. -/
import Derived.Test.YtgmifnppapifoaaZRow
import Derived.Test.YtgmifnppapifoaaOBy
namespace Go.Proofs.Ytgmifnppapifoaa.V
set_option linter.unusedSimpArgs false
open Go.ChangeShapes Go.WideShapes Go.RowKit

structure SessConfT where
  f0 : List Int
  f1 : Int
  f2 : Int
structure SessConfE where
  t : SessConfT
  h0 : Hd
structure SessConfN (x : SessConfT) : Prop where
  o0 : ∀ q ∈ x.f0, q = q
  l0 : x.f0.length ≤ maxLen
  tt : True
structure SessConfSm (x : SessConfT) : Prop where
  l0 : x.f0.length ≤ 1048576
  tt : True
structure SessConfM (w : World) (lo : Nat) (e : SessConfE) : Prop where
  m0 : SqB w lo e.h0 e.t.f0
  tt : True
theorem SessConfM.fr {w w1 : World} {lo : Nat} {e : SessConfE} (h : SessConfM w lo e) (hf : Fr lo w w1) : SessConfM w1 lo e := ⟨h.m0.fr hf, h.tt⟩
theorem SessConfM.lo {w : World} {lo lo' : Nat} {e : SessConfE} (h : SessConfM w lo e) (hl : lo' ≤ lo) : SessConfM w lo' e := ⟨h.m0.lo hl, h.tt⟩
theorem SessConfM.keep {w w1 : World} {lo : Nat} {e : SessConfE} (h : SessConfM w lo e) (hb : Below w.heap.size w w1) : SessConfM w1 lo e := h.fr (Fr.below hb lo)
set_option maxRecDepth 20000 in
set_option maxHeartbeats 2000000 in
theorem szSessConf_n (e : SessConfE) (left : Int) (w : World) (h0 : 0 ≤ left) (h1 : left ≤ 1048576) (ho : SessConfN e.t) (hm : SessConfM w 0 e) :
    Calls Try.prog 4 #[.agg #[.slice e.h0.a e.h0.len e.h0.cap, .int .i64 e.t.f1, .int .i64 e.t.f2], .int .i64 left] w fun r w' => (∃ m : Int, -1 ≤ m ∧ m ≤ left ∧ (0 ≤ m → SessConfSm e.t) ∧ r = .returned (.int .i64 m)) ∧ Below w.heap.size w w' := by
  have q0 := hide (fun l w h0 h1 hs => szByteS_n e.h0 e.t.f0 l w h0 h1 ho.o0 ho.l0 hs)
  have M0 := hide hm.m0
  have R := hide (RowIs.new w #[.slice e.h0.a e.h0.len e.h0.cap, .int .i64 e.t.f1, .int .i64 e.t.f2] 24)
  have B := hide (bAl (Below.refl w.heap.size w) (.cells #[.slice e.h0.a e.h0.len e.h0.cap, .int .i64 e.t.f1, .int .i64 e.t.f2] 24))
  clear ho hm
  go_enter Try.func4, Try.ntmps4
  go_wp2_with fail
  refine (unhide q0 _ _ (by omega) (by omega) ((unhide M0).keep (unhide B))).mono ?_
  rintro r w1 ⟨⟨m0, x0, y0, z0, rfl⟩, hb1⟩
  have Z0 := hide z0
  clear z0
  replace R := hide ((unhide R).keep hb1)
  replace B := hide (bTr (unhide B) hb1)
  clear hb1 
  by_cases e0 : m0 < 0
  · go_wp2_with fail
    go_ret
    exact ⟨⟨-1, by omega, by omega, by omega, rfl⟩, unhide B⟩
  go_wp2_with fail
  go_ret
  exact ⟨⟨_, by omega, by omega, fun _ => ⟨unhide Z0 (by omega), trivial⟩, rfl⟩, unhide B⟩

set_option maxRecDepth 40000 in
set_option maxHeartbeats 8000000 in
theorem toSessConf_n (e : SessConfE) (w : World) (hs : SessConfSm e.t) (hm : SessConfM w 0 e) :
    Calls Try.prog 6 #[.agg #[.slice e.h0.a e.h0.len e.h0.cap, .int .i64 e.t.f1, .int .i64 e.t.f2]] w fun r w' => (∃ e' : SessConfE, e'.t = e.t ∧ r = .returned (.agg #[.slice e'.h0.a e'.h0.len e'.h0.cap, .int .i64 e'.t.f1, .int .i64 e'.t.f2]) ∧ SessConfM w' w.heap.size e') ∧ Below w.heap.size w w' := by
  have q0 := hide (fun w hm => toByteS_n e.h0 e.t.f0 w hs.l0 hm)
  have M0 := hide hm.m0
  clear hs hm
  obtain ⟨W0, hW0⟩ : ∃ W, W = ((w.alloc (.cells #[.slice e.h0.a e.h0.len e.h0.cap, .int .i64 e.t.f1, .int .i64 e.t.f2] 24)).alloc (.cells #[.slice none 0 0, .int .i64 0, .int .i64 0] 27)).alloc (.cells #[.slice none 0 0, .int .i64 0, .int .i64 0] 27) := ⟨_, rfl⟩
  have z0 : W0.heap.size = w.heap.size + 1 + 1 + 1 := by rw [hW0]; simp
  have b0 : Below w.heap.size w W0 := by rw [hW0]; exact bAl (bAl (bAl (Below.refl _ _) _) _) _
  have A0 : RowIs W0 w.heap.size #[.slice e.h0.a e.h0.len e.h0.cap, .int .i64 e.t.f1, .int .i64 e.t.f2] 24 := by rw [hW0]; exact ((RowIs.new w _ _).keep (bAl (Below.refl _ _) _)).keep (bAl (Below.refl _ _) _)
  have Z0 : RowIs W0 (w.heap.size + 1) #[.slice none 0 0, .int .i64 0, .int .i64 0] 27 := by
    rw [hW0]
    have := (RowIs.new (w.alloc (.cells #[.slice e.h0.a e.h0.len e.h0.cap, .int .i64 e.t.f1, .int .i64 e.t.f2] 24)) #[.slice none 0 0, .int .i64 0, .int .i64 0] 27).keep (bAl (Below.refl _ _) (.cells #[.slice none 0 0, .int .i64 0, .int .i64 0] 27))
    simpa using this
  have O0 : RowIs W0 (w.heap.size + 1 + 1) #[.slice none 0 0, .int .i64 0, .int .i64 0] 27 := by
    rw [hW0]
    have := RowIs.new ((w.alloc (.cells #[.slice e.h0.a e.h0.len e.h0.cap, .int .i64 e.t.f1, .int .i64 e.t.f2] 24)).alloc (.cells #[.slice none 0 0, .int .i64 0, .int .i64 0] 27)) #[.slice none 0 0, .int .i64 0, .int .i64 0] 27
    simpa using this
  have HW := hide hW0
  have hne1 : w.heap.size ≠ w.heap.size + 1 + 1 := by omega
  have hne2 : w.heap.size + 1 ≠ w.heap.size + 1 + 1 := by omega
  clear hW0
  go_enter Try.func6, Try.ntmps6
  go_wp2_with fail
  rw [← unhide HW]
  clear HW
  have Oh := hide O0
  clear O0
  have Zh := hide Z0
  clear Z0
  have Ah := hide A0
  clear A0
  have Bh := hide b0
  have Gh : Hid (w.heap.size + 3 ≤ W0.heap.size) := hide (by omega)
  clear b0 z0
  refine (unhide q0 _ ((unhide M0).keep (unhide Bh))).mono ?_
  rintro r v0 ⟨⟨k0, rfl, hk0⟩, hb1⟩
  have K0 := hide (hk0.lo (unhide Gh))
  clear hk0
  have Gn : Hid (w.heap.size + 3 ≤ v0.heap.size) := hide (Nat.le_trans (unhide Gh) hb1.size)
  clear Gh
  have Gh := Gn
  clear Gn
  replace Oh := hide ((unhide Oh).keep hb1)
  replace Zh := hide ((unhide Zh).keep hb1)
  replace Ah := hide ((unhide Ah).keep hb1)
  replace Bh := hide (bTr (unhide Bh) hb1)
  clear hb1
  have k_0 := (unhide Oh).at (o := 0) (v := .slice none 0 0) rfl
  have g_0 := (unhide Oh).froz 0
  have k_1 := (unhide Oh).at (o := 1) (v := .int .i64 0) rfl
  have g_1 := (unhide Oh).froz 1
  have k_2 := (unhide Oh).at (o := 2) (v := .int .i64 0) rfl
  have g_2 := (unhide Oh).froz 2
  have zO := (unhide Oh).lt
  have zA := (unhide Ah).lt
  have a_1 := (unhide Ah).at (o := 1) (v := .int .i64 e.t.f1) rfl
  have a_2 := (unhide Ah).at (o := 2) (v := .int .i64 e.t.f2) rfl
  obtain ⟨W1, hW⟩ : ∃ W, W = (((v0.setCell ⟨w.heap.size + 1 + 1, 0, none⟩ (.slice k0.a k0.len k0.cap)).setCell ⟨w.heap.size + 1 + 1, 1, none⟩ (.int .i64 e.t.f1)).setCell ⟨w.heap.size + 1 + 1, 2, none⟩ (.int .i64 e.t.f2)) := ⟨_, rfl⟩
  have On : Hid (RowIs W1 (w.heap.size + 1 + 1) #[.slice k0.a k0.len k0.cap, .int .i64 e.t.f1, .int .i64 e.t.f2] 27) := hide (by have h := ((((unhide Oh).set 0 (.slice k0.a k0.len k0.cap)).set 1 (.int .i64 e.t.f1)).set 2 (.int .i64 e.t.f2)); simp only [List.setIfInBounds_toArray, List.set_cons_zero, List.set_cons_succ] at h; rw [hW]; exact h)
  have Zn : Hid (RowIs W1 (w.heap.size + 1) #[.slice none 0 0, .int .i64 0, .int .i64 0] 27) := hide (by rw [hW]; exact ((((unhide Zh).setOther (o' := 0) (.slice k0.a k0.len k0.cap) hne2).setOther (o' := 1) (.int .i64 e.t.f1) hne2).setOther (o' := 2) (.int .i64 e.t.f2) hne2))
  have An : Hid (RowIs W1 w.heap.size #[.slice e.h0.a e.h0.len e.h0.cap, .int .i64 e.t.f1, .int .i64 e.t.f2] 24) := hide (by rw [hW]; exact ((((unhide Ah).setOther (o' := 0) (.slice k0.a k0.len k0.cap) hne1).setOther (o' := 1) (.int .i64 e.t.f1) hne1).setOther (o' := 2) (.int .i64 e.t.f2) hne1))
  have Bn : Hid (Below w.heap.size w W1) := hide (by rw [hW]; exact (bSt (bSt (bSt (unhide Bh) (b := w.heap.size + 1 + 1) (by omega) 0 (.slice k0.a k0.len k0.cap)) (b := w.heap.size + 1 + 1) (by omega) 1 (.int .i64 e.t.f1)) (b := w.heap.size + 1 + 1) (by omega) 2 (.int .i64 e.t.f2)))
  have Gn : Hid (w.heap.size + 3 ≤ W1.heap.size) := hide (by rw [hW]; simp only [size_sc]; exact unhide Gh)
  replace K0 := hide (show SqB W1 (w.heap.size + 3) k0 e.t.f0 by rw [hW]; exact (unhide K0).fr ((((Fr.below (Below.refl _ v0) _).sets (.slice k0.a k0.len k0.cap) (by omega)).sets (.int .i64 e.t.f1) (by omega)).sets (.int .i64 e.t.f2) (by omega)))
  have HW := hide hW.symm
  clear hW Oh Zh Ah Bh Gh
  have Oh := On
  clear On
  have Zh := Zn
  clear Zn
  have Ah := An
  clear An
  have Bh := Bn
  clear Bn
  have Gh := Gn
  clear Gn
  go_upto_region 5 with fail
  rw [unhide HW]
  clear HW k_0 g_0 k_1 g_1 k_2 g_2 zO zA a_1 a_2
  go_step
  refine wpList_load_row rfl 27 _ rfl (w.heap.size + 1 + 1) rfl 27 _ (0, 0) _ (unhide Oh) Try.underlying27 rfl (by kernel_rfl) ?_
  refine wpList_store_row rfl 27 _ _ rfl (w.heap.size + 1) #[.slice k0.a k0.len k0.cap, .int .i64 e.t.f1, .int .i64 e.t.f2] rfl rfl 27 _ (unhide Zh) (by kernel_rfl) rfl (by simp [Value.oneCell']) ?_
  have Z6 := hide (setRow_heap W1 (w.heap.size + 1) _ #[.slice k0.a k0.len k0.cap, .int .i64 e.t.f1, .int .i64 e.t.f2] _ _ (unhide Zh))
  go_wp2_with fail
  refine bodyPost_ret (v := .agg #[.slice k0.a k0.len k0.cap, .int .i64 e.t.f1, .int .i64 e.t.f2]) (results_cell_row rfl _ _ (w.heap.size + 1) 27 _ (0, 0) _ rfl (unhide Z6) Try.underlying27 rfl (by kernel_rfl)) rfl ⟨⟨⟨e.t, k0⟩, rfl, rfl, ⟨((unhide K0).fr ((Fr.below (Below.refl _ _) _).row _ (by omega))).lo (by omega), trivial⟩⟩, bRow (unhide Bh) (by omega) _⟩

set_option maxRecDepth 20000 in
set_option maxHeartbeats 2000000 in
theorem eqSessConf_n (e1 e2 : SessConfE) (w : World) (ht : e2.t = e1.t) (hn : SessConfN e1.t) (m1 : SessConfM w 0 e1) (m2 : SessConfM w 0 e2) :
    Calls Try.prog 8 #[.agg #[.slice e1.h0.a e1.h0.len e1.h0.cap, .int .i64 e1.t.f1, .int .i64 e1.t.f2], .agg #[.slice e2.h0.a e2.h0.len e2.h0.cap, .int .i64 e2.t.f1, .int .i64 e2.t.f2]] w fun r w' => r = .returned (.bool true) ∧ Below w.heap.size w w' := by
  obtain ⟨t, h0⟩ := e1
  obtain ⟨t', g0⟩ := e2
  simp only at ht
  subst ht
  have q0 := hide (fun w u1 u2 => eqByteS_n h0 g0 t'.f0 w hn.l0 u1 u2)
  have M0 := hide m1.m0
  have P0 := hide m2.m0
  have X := hide ((RowIs.new w #[.slice h0.a h0.len h0.cap, .int .i64 t'.f1, .int .i64 t'.f2] 27).keep (bAl (Below.refl _ _) (.cells #[.slice g0.a g0.len g0.cap, .int .i64 t'.f1, .int .i64 t'.f2] 27)))
  have Y : Hid (RowIs ((w.alloc (.cells #[.slice h0.a h0.len h0.cap, .int .i64 t'.f1, .int .i64 t'.f2] 27)).alloc (.cells #[.slice g0.a g0.len g0.cap, .int .i64 t'.f1, .int .i64 t'.f2] 27)) (w.heap.size + 1) #[.slice g0.a g0.len g0.cap, .int .i64 t'.f1, .int .i64 t'.f2] 27) := hide (by have := RowIs.new (w.alloc (.cells #[.slice h0.a h0.len h0.cap, .int .i64 t'.f1, .int .i64 t'.f2] 27)) #[.slice g0.a g0.len g0.cap, .int .i64 t'.f1, .int .i64 t'.f2] 27; simpa using this)
  have B := hide (bAl (bAl (Below.refl w.heap.size w) (.cells #[.slice h0.a h0.len h0.cap, .int .i64 t'.f1, .int .i64 t'.f2] 27)) (.cells #[.slice g0.a g0.len g0.cap, .int .i64 t'.f1, .int .i64 t'.f2] 27))
  clear m1 m2 hn
  go_enter Try.func8, Try.ntmps8
  go_wp2_with fail
  refine (unhide q0 _ ((unhide M0).keep (unhide B)) ((unhide P0).keep (unhide B))).mono ?_
  rintro r w1 ⟨rfl, hb1⟩
  replace X := hide ((unhide X).keep hb1)
  replace Y := hide ((unhide Y).keep hb1)
  replace B := hide (bTr (unhide B) hb1)
  clear hb1 
  have c1 := (unhide X).at (o := 1) (v := .int .i64 t'.f1) rfl
  have d1 := (unhide Y).at (o := 1) (v := .int .i64 t'.f1) rfl
  have c2 := (unhide X).at (o := 2) (v := .int .i64 t'.f2) rfl
  have d2 := (unhide Y).at (o := 2) (v := .int .i64 t'.f2) rfl
  go_wp2_with fail
  go_ret
  exact ⟨rfl, unhide B⟩

theorem listcSessConf {α : Type} {l : List α} (h : l.length = 3) : ∃ a0 a1 a2, l = [a0, a1, a2] := by
  match l, h with
  | [a0, a1, a2], _ => exact ⟨a0, a1, a2, rfl⟩
theorem listfSessConf {α : Type} {l : List α} (h : l.length = 3) : ∃ a0 a1 a2, l = [a0, a1, a2] := by
  match l, h with
  | [a0, a1, a2], _ => exact ⟨a0, a1, a2, rfl⟩
section
variable {H : Type} {enc : TypeId × Value → H} {w : World} {base : Nat} {sp : Nat → Bool} {held : Bool}
set_option maxRecDepth 100000 in
theorem read_SessConf {n : Nat} {cs : List Value} {x : DataW H × List MemPlace} (h : DataW.trod enc Try.prog w base sp held n 24 cs = some x) : ∃ e : SessConfE, cs = [.slice e.h0.a e.h0.len e.h0.cap, .int .i64 e.t.f1, .int .i64 e.t.f2] ∧ SessConfN e.t ∧ SessConfM w 0 e := by
  obtain ⟨xs, m, rfl, _, hlen, hx, hf⟩ := DataW.trod_struct Try.underlying24 h
  have hc : Try.prog.cellsOf 24 = 3 := by kernel_rfl
  have ky0 : Try.prog.cellsOf 22 = 1 := by kernel_rfl
  have ky1 : Try.prog.cellsOf 3 = 1 := by kernel_rfl
  obtain ⟨c0, c1, c2, rfl⟩ := listcSessConf (hlen.trans hc)
  obtain ⟨x0, x1, x2, rfl⟩ := listfSessConf hx
  have h0 : DataW.trod enc Try.prog w base sp held m 22 [c0] = some x0 := by have := hf 0 _ rfl; simpa [ky0, ky1] using this
  have g0 : ∃ a l c, c0 = .slice a l c := by
    rcases Go.Deep.open_slice Try.underlying22 h0 with ⟨hcs, _⟩ | ⟨a', len', cap', _, _, _, _, hcs, _⟩
    · simp at hcs; exact ⟨_, _, _, hcs⟩
    · simp at hcs; exact ⟨_, _, _, hcs⟩
  obtain ⟨a0, b0, d0, rfl⟩ := g0
  obtain ⟨y0, s0, ok0, ml0⟩ := readsB h0
  have h1 : DataW.trod enc Try.prog w base sp held m 3 [c1] = some x1 := by have := hf 1 _ rfl; simpa [ky0, ky1] using this
  obtain ⟨y1, e1, _, _⟩ := DataW.trod_int Try.underlying3 h1
  simp at e1
  subst e1
  have h2 : DataW.trod enc Try.prog w base sp held m 3 [c2] = some x2 := by have := hf 2 _ rfl; simpa [ky0, ky1] using this
  obtain ⟨y2, e2, _, _⟩ := DataW.trod_int Try.underlying3 h2
  simp at e2
  subst e2
  exact ⟨⟨⟨y0, y1, y2⟩, ⟨a0, b0, d0⟩⟩, rfl, ⟨ok0, ml0, trivial⟩, ⟨s0, trivial⟩⟩
set_option maxRecDepth 100000 in
theorem came_SessConf {r : Reach} {b0 : Nat} {v0 : Value} {d : DataW H} {q : List MemPlace} (hv : Value.okWide Try.prog w r b0 24 v0) (h : DataW.Trod enc Try.prog w base sp held 24 v0 d q) : ∃ e : SessConfE, v0 = .agg #[.slice e.h0.a e.h0.len e.h0.cap, .int .i64 e.t.f1, .int .i64 e.t.f2] ∧ SessConfN e.t ∧ SessConfM w 0 e := by
  obtain ⟨cs, rfl, _⟩ := okWide_struct Try.underlying24 hv
  obtain ⟨fuel, hf0⟩ := h
  obtain ⟨e, h1, h2, h3⟩ := read_SessConf hf0
  refine ⟨e, ?_, h2, h3⟩
  obtain ⟨l⟩ := cs
  simp only [Value.cells] at h1
  rw [h1]
end
end Go.Proofs.Ytgmifnppapifoaa.V
