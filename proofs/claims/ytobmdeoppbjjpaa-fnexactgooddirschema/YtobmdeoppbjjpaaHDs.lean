/- impl.DirSchema in memory, by what it holds: sized, copied, held against itself, read. -/
import Derived.Test.YtobmdeoppbjjpaaHAy
import Derived.Test.YtobmdeoppbjjpaaHCl
namespace Go.Proofs.Ytobmdeoppbjjpaa.V
set_option linter.unusedSimpArgs false
open Go.ChangeShapes Go.WideShapes Go.RowKit

structure DirSchemaT where
  f0 : List AttrTypeT
  f1 : List ClassT
structure DirSchemaE where
  t : DirSchemaT
  h0 : Hd
  h1 : Hd
structure DirSchemaN (x : DirSchemaT) : Prop where
  o0 : ∀ q ∈ x.f0, AttrTypeN q
  l0 : x.f0.length ≤ maxLen
  o1 : ∀ q ∈ x.f1, ClassN q
  l1 : x.f1.length ≤ maxLen
  tt : True
structure DirSchemaSm (x : DirSchemaT) : Prop where
  l0 : x.f0.length ≤ 1048576
  o0 : ∀ q ∈ x.f0, AttrTypeSm q
  l1 : x.f1.length ≤ 1048576
  o1 : ∀ q ∈ x.f1, ClassSm q
  tt : True
structure DirSchemaM (w : World) (lo : Nat) (e : DirSchemaE) : Prop where
  m0 : SqAttrType w lo e.h0 e.t.f0
  m1 : SqClass w lo e.h1 e.t.f1
  tt : True
theorem DirSchemaM.fr {w w1 : World} {lo : Nat} {e : DirSchemaE} (h : DirSchemaM w lo e) (hf : Fr lo w w1) : DirSchemaM w1 lo e := ⟨h.m0.fr hf, h.m1.fr hf, h.tt⟩
theorem DirSchemaM.lo {w : World} {lo lo' : Nat} {e : DirSchemaE} (h : DirSchemaM w lo e) (hl : lo' ≤ lo) : DirSchemaM w lo' e := ⟨h.m0.lo hl, h.m1.lo hl, h.tt⟩
theorem DirSchemaM.keep {w w1 : World} {lo : Nat} {e : DirSchemaE} (h : DirSchemaM w lo e) (hb : Below w.heap.size w w1) : DirSchemaM w1 lo e := h.fr (Fr.below hb lo)
set_option maxRecDepth 20000 in
set_option maxHeartbeats 2000000 in
theorem szDirSchema_n (e : DirSchemaE) (left : Int) (w : World) (h0 : 0 ≤ left) (h1 : left ≤ 1048576) (ho : DirSchemaN e.t) (hm : DirSchemaM w 0 e) :
    Calls Try.prog 4 #[.agg #[.slice e.h0.a e.h0.len e.h0.cap, .slice e.h1.a e.h1.len e.h1.cap], .int .i64 left] w fun r w' => (∃ m : Int, -1 ≤ m ∧ m ≤ left ∧ (0 ≤ m → DirSchemaSm e.t) ∧ r = .returned (.int .i64 m)) ∧ Below w.heap.size w w' := by
  have q0 := hide (fun l w h0 h1 hs => szAttrTypeS_n e.h0 e.t.f0 l w h0 h1 ho.o0 ho.l0 hs)
  have M0 := hide hm.m0
  have q1 := hide (fun l w h0 h1 hs => szClassS_n e.h1 e.t.f1 l w h0 h1 ho.o1 ho.l1 hs)
  have M1 := hide hm.m1
  have R := hide (RowIs.new w #[.slice e.h0.a e.h0.len e.h0.cap, .slice e.h1.a e.h1.len e.h1.cap] 25)
  have B := hide (bAl (Below.refl w.heap.size w) (.cells #[.slice e.h0.a e.h0.len e.h0.cap, .slice e.h1.a e.h1.len e.h1.cap] 25))
  clear ho hm
  go_enter Try.func4, Try.ntmps4
  go_wp2_with fail
  refine (unhide q0 _ _ (by omega) (by omega) ((unhide M0).keep (unhide B))).mono ?_
  rintro r w1 ⟨⟨m0, x0, y0, z0, rfl⟩, hb1⟩
  have Z0 := hide z0
  clear z0
  replace R := hide ((unhide R).keep hb1)
  replace B := hide (bTr (unhide B) hb1)
  clear hb1 
  by_cases e0 : m0 < 0
  · go_wp2_with fail
    go_ret
    exact ⟨⟨-1, by omega, by omega, by omega, rfl⟩, unhide B⟩
  have c1 := (unhide R).at (o := 1) (v := .slice e.h1.a e.h1.len e.h1.cap) rfl
  go_wp2_with fail
  refine (unhide q1 _ _ (by omega) (by omega) ((unhide M1).keep (unhide B))).mono ?_
  rintro r w2 ⟨⟨m1, x1, y1, z1, rfl⟩, hb1⟩
  have Z1 := hide z1
  clear z1
  replace R := hide ((unhide R).keep hb1)
  replace B := hide (bTr (unhide B) hb1)
  clear hb1 c1
  by_cases e1 : m1 < 0
  · go_wp2_with fail
    go_ret
    exact ⟨⟨-1, by omega, by omega, by omega, rfl⟩, unhide B⟩
  go_wp2_with fail
  go_ret
  exact ⟨⟨_, by omega, by omega, fun _ => ⟨(unhide Z0 (by omega)).1, (unhide Z0 (by omega)).2, (unhide Z1 (by omega)).1, (unhide Z1 (by omega)).2, trivial⟩, rfl⟩, unhide B⟩

set_option maxRecDepth 40000 in
set_option maxHeartbeats 8000000 in
theorem toDirSchema_n (e : DirSchemaE) (w : World) (hs : DirSchemaSm e.t) (hm : DirSchemaM w 0 e) :
    Calls Try.prog 6 #[.agg #[.slice e.h0.a e.h0.len e.h0.cap, .slice e.h1.a e.h1.len e.h1.cap]] w fun r w' => (∃ e' : DirSchemaE, e'.t = e.t ∧ r = .returned (.agg #[.slice e'.h0.a e'.h0.len e'.h0.cap, .slice e'.h1.a e'.h1.len e'.h1.cap]) ∧ DirSchemaM w' w.heap.size e') ∧ Below w.heap.size w w' := by
  have q0 := hide (fun w hm => toAttrTypeS_n e.h0 e.t.f0 w ⟨hs.l0, hs.o0⟩ hm)
  have M0 := hide hm.m0
  have q1 := hide (fun w hm => toClassS_n e.h1 e.t.f1 w ⟨hs.l1, hs.o1⟩ hm)
  have M1 := hide hm.m1
  clear hs hm
  obtain ⟨W0, hW0⟩ : ∃ W, W = ((w.alloc (.cells #[.slice e.h0.a e.h0.len e.h0.cap, .slice e.h1.a e.h1.len e.h1.cap] 25)).alloc (.cells #[.slice none 0 0, .slice none 0 0] 31)).alloc (.cells #[.slice none 0 0, .slice none 0 0] 31) := ⟨_, rfl⟩
  have z0 : W0.heap.size = w.heap.size + 1 + 1 + 1 := by rw [hW0]; simp
  have b0 : Below w.heap.size w W0 := by rw [hW0]; exact bAl (bAl (bAl (Below.refl _ _) _) _) _
  have A0 : RowIs W0 w.heap.size #[.slice e.h0.a e.h0.len e.h0.cap, .slice e.h1.a e.h1.len e.h1.cap] 25 := by rw [hW0]; exact ((RowIs.new w _ _).keep (bAl (Below.refl _ _) _)).keep (bAl (Below.refl _ _) _)
  have Z0 : RowIs W0 (w.heap.size + 1) #[.slice none 0 0, .slice none 0 0] 31 := by
    rw [hW0]
    have := (RowIs.new (w.alloc (.cells #[.slice e.h0.a e.h0.len e.h0.cap, .slice e.h1.a e.h1.len e.h1.cap] 25)) #[.slice none 0 0, .slice none 0 0] 31).keep (bAl (Below.refl _ _) (.cells #[.slice none 0 0, .slice none 0 0] 31))
    simpa using this
  have O0 : RowIs W0 (w.heap.size + 1 + 1) #[.slice none 0 0, .slice none 0 0] 31 := by
    rw [hW0]
    have := RowIs.new ((w.alloc (.cells #[.slice e.h0.a e.h0.len e.h0.cap, .slice e.h1.a e.h1.len e.h1.cap] 25)).alloc (.cells #[.slice none 0 0, .slice none 0 0] 31)) #[.slice none 0 0, .slice none 0 0] 31
    simpa using this
  have HW := hide hW0
  have hne1 : w.heap.size ≠ w.heap.size + 1 + 1 := by omega
  have hne2 : w.heap.size + 1 ≠ w.heap.size + 1 + 1 := by omega
  clear hW0
  go_enter Try.func6, Try.ntmps6
  go_wp2_with fail
  rw [← unhide HW]
  clear HW
  have Oh := hide O0
  clear O0
  have Zh := hide Z0
  clear Z0
  have Ah := hide A0
  clear A0
  have Bh := hide b0
  have Gh : Hid (w.heap.size + 3 ≤ W0.heap.size) := hide (by omega)
  clear b0 z0
  refine (unhide q0 _ ((unhide M0).keep (unhide Bh))).mono ?_
  rintro r v0 ⟨⟨k0, rfl, hk0⟩, hb1⟩
  have K0 := hide (hk0.lo (unhide Gh))
  clear hk0
  have Gn : Hid (w.heap.size + 3 ≤ v0.heap.size) := hide (Nat.le_trans (unhide Gh) hb1.size)
  clear Gh
  have Gh := Gn
  clear Gn
  replace Oh := hide ((unhide Oh).keep hb1)
  replace Zh := hide ((unhide Zh).keep hb1)
  replace Ah := hide ((unhide Ah).keep hb1)
  replace Bh := hide (bTr (unhide Bh) hb1)
  clear hb1
  have k_0 := (unhide Oh).at (o := 0) (v := .slice none 0 0) rfl
  have g_0 := (unhide Oh).froz 0
  have a_1 := (unhide Ah).at (o := 1) (v := .slice e.h1.a e.h1.len e.h1.cap) rfl
  obtain ⟨W1, hW⟩ : ∃ W, W = (v0.setCell ⟨w.heap.size + 1 + 1, 0, none⟩ (.slice k0.a k0.len k0.cap)) := ⟨_, rfl⟩
  have On : Hid (RowIs W1 (w.heap.size + 1 + 1) #[.slice k0.a k0.len k0.cap, .slice none 0 0] 31) := hide (by have h := ((unhide Oh).set 0 (.slice k0.a k0.len k0.cap)); simp only [List.setIfInBounds_toArray, List.set_cons_zero, List.set_cons_succ] at h; rw [hW]; exact h)
  have Zn : Hid (RowIs W1 (w.heap.size + 1) #[.slice none 0 0, .slice none 0 0] 31) := hide (by rw [hW]; exact ((unhide Zh).setOther (o' := 0) (.slice k0.a k0.len k0.cap) hne2))
  have An : Hid (RowIs W1 w.heap.size #[.slice e.h0.a e.h0.len e.h0.cap, .slice e.h1.a e.h1.len e.h1.cap] 25) := hide (by rw [hW]; exact ((unhide Ah).setOther (o' := 0) (.slice k0.a k0.len k0.cap) hne1))
  have Bn : Hid (Below w.heap.size w W1) := hide (by rw [hW]; exact (bSt (unhide Bh) (b := w.heap.size + 1 + 1) (by omega) 0 (.slice k0.a k0.len k0.cap)))
  have Gn : Hid (w.heap.size + 3 ≤ W1.heap.size) := hide (by rw [hW]; simp only [size_sc]; exact unhide Gh)
  replace K0 := hide (show SqAttrType W1 (w.heap.size + 3) k0 e.t.f0 by rw [hW]; exact (unhide K0).fr ((Fr.below (Below.refl _ v0) _).sets (.slice k0.a k0.len k0.cap) (by omega)))
  have HW := hide hW.symm
  clear hW Oh Zh Ah Bh Gh
  have Oh := On
  clear On
  have Zh := Zn
  clear Zn
  have Ah := An
  clear An
  have Bh := Bn
  clear Bn
  have Gh := Gn
  clear Gn
  go_wp2_with fail
  rw [unhide HW]
  clear HW k_0 g_0 a_1
  refine (unhide q1 _ ((unhide M1).keep (unhide Bh))).mono ?_
  rintro r v1 ⟨⟨k1, rfl, hk1⟩, hb1⟩
  have K1 := hide (hk1.lo (unhide Gh))
  clear hk1
  have Gn : Hid (w.heap.size + 3 ≤ v1.heap.size) := hide (Nat.le_trans (unhide Gh) hb1.size)
  clear Gh
  have Gh := Gn
  clear Gn
  replace Oh := hide ((unhide Oh).keep hb1)
  replace Zh := hide ((unhide Zh).keep hb1)
  replace Ah := hide ((unhide Ah).keep hb1)
  replace Bh := hide (bTr (unhide Bh) hb1)
  replace K0 := hide ((unhide K0).keep hb1)
  clear hb1
  have k_1 := (unhide Oh).at (o := 1) (v := .slice none 0 0) rfl
  have g_1 := (unhide Oh).froz 1
  obtain ⟨W2, hW⟩ : ∃ W, W = (v1.setCell ⟨w.heap.size + 1 + 1, 1, none⟩ (.slice k1.a k1.len k1.cap)) := ⟨_, rfl⟩
  have On : Hid (RowIs W2 (w.heap.size + 1 + 1) #[.slice k0.a k0.len k0.cap, .slice k1.a k1.len k1.cap] 31) := hide (by have h := ((unhide Oh).set 1 (.slice k1.a k1.len k1.cap)); simp only [List.setIfInBounds_toArray, List.set_cons_zero, List.set_cons_succ] at h; rw [hW]; exact h)
  have Zn : Hid (RowIs W2 (w.heap.size + 1) #[.slice none 0 0, .slice none 0 0] 31) := hide (by rw [hW]; exact ((unhide Zh).setOther (o' := 1) (.slice k1.a k1.len k1.cap) hne2))
  have An : Hid (RowIs W2 w.heap.size #[.slice e.h0.a e.h0.len e.h0.cap, .slice e.h1.a e.h1.len e.h1.cap] 25) := hide (by rw [hW]; exact ((unhide Ah).setOther (o' := 1) (.slice k1.a k1.len k1.cap) hne1))
  have Bn : Hid (Below w.heap.size w W2) := hide (by rw [hW]; exact (bSt (unhide Bh) (b := w.heap.size + 1 + 1) (by omega) 1 (.slice k1.a k1.len k1.cap)))
  have Gn : Hid (w.heap.size + 3 ≤ W2.heap.size) := hide (by rw [hW]; simp only [size_sc]; exact unhide Gh)
  replace K0 := hide (show SqAttrType W2 (w.heap.size + 3) k0 e.t.f0 by rw [hW]; exact (unhide K0).fr ((Fr.below (Below.refl _ v1) _).sets (.slice k1.a k1.len k1.cap) (by omega)))
  replace K1 := hide (show SqClass W2 (w.heap.size + 3) k1 e.t.f1 by rw [hW]; exact (unhide K1).fr ((Fr.below (Below.refl _ v1) _).sets (.slice k1.a k1.len k1.cap) (by omega)))
  have HW := hide hW.symm
  clear hW Oh Zh Ah Bh Gh
  have Oh := On
  clear On
  have Zh := Zn
  clear Zn
  have Ah := An
  clear An
  have Bh := Bn
  clear Bn
  have Gh := Gn
  clear Gn
  go_upto_region 4 with fail
  rw [unhide HW]
  clear HW k_1 g_1
  go_step
  refine wpList_load_row rfl 31 _ rfl (w.heap.size + 1 + 1) rfl 31 _ (0, 0) _ (unhide Oh) Try.underlying31 rfl (by kernel_rfl) ?_
  refine wpList_store_row rfl 31 _ _ rfl (w.heap.size + 1) #[.slice k0.a k0.len k0.cap, .slice k1.a k1.len k1.cap] rfl rfl 31 _ (unhide Zh) (by kernel_rfl) rfl (by simp [Value.oneCell']) ?_
  have Z6 := hide (setRow_heap W2 (w.heap.size + 1) _ #[.slice k0.a k0.len k0.cap, .slice k1.a k1.len k1.cap] _ _ (unhide Zh))
  go_wp2_with fail
  refine bodyPost_ret (v := .agg #[.slice k0.a k0.len k0.cap, .slice k1.a k1.len k1.cap]) (results_cell_row rfl _ _ (w.heap.size + 1) 31 _ (0, 0) _ rfl (unhide Z6) Try.underlying31 rfl (by kernel_rfl)) rfl ⟨⟨⟨e.t, k0, k1⟩, rfl, rfl, ⟨((unhide K0).fr ((Fr.below (Below.refl _ _) _).row _ (by omega))).lo (by omega), ((unhide K1).fr ((Fr.below (Below.refl _ _) _).row _ (by omega))).lo (by omega), trivial⟩⟩, bRow (unhide Bh) (by omega) _⟩

set_option maxRecDepth 20000 in
set_option maxHeartbeats 2000000 in
theorem eqDirSchema_n (e1 e2 : DirSchemaE) (w : World) (ht : e2.t = e1.t) (hn : DirSchemaN e1.t) (m1 : DirSchemaM w 0 e1) (m2 : DirSchemaM w 0 e2) :
    Calls Try.prog 8 #[.agg #[.slice e1.h0.a e1.h0.len e1.h0.cap, .slice e1.h1.a e1.h1.len e1.h1.cap], .agg #[.slice e2.h0.a e2.h0.len e2.h0.cap, .slice e2.h1.a e2.h1.len e2.h1.cap]] w fun r w' => r = .returned (.bool true) ∧ Below w.heap.size w w' := by
  obtain ⟨t, h0, h1⟩ := e1
  obtain ⟨t', g0, g1⟩ := e2
  simp only at ht
  subst ht
  have q0 := hide (fun w u1 u2 => eqAttrTypeS_n h0 g0 t'.f0 w hn.l0 hn.o0 u1 u2)
  have M0 := hide m1.m0
  have P0 := hide m2.m0
  have q1 := hide (fun w u1 u2 => eqClassS_n h1 g1 t'.f1 w hn.l1 hn.o1 u1 u2)
  have M1 := hide m1.m1
  have P1 := hide m2.m1
  have X := hide ((RowIs.new w #[.slice h0.a h0.len h0.cap, .slice h1.a h1.len h1.cap] 31).keep (bAl (Below.refl _ _) (.cells #[.slice g0.a g0.len g0.cap, .slice g1.a g1.len g1.cap] 31)))
  have Y : Hid (RowIs ((w.alloc (.cells #[.slice h0.a h0.len h0.cap, .slice h1.a h1.len h1.cap] 31)).alloc (.cells #[.slice g0.a g0.len g0.cap, .slice g1.a g1.len g1.cap] 31)) (w.heap.size + 1) #[.slice g0.a g0.len g0.cap, .slice g1.a g1.len g1.cap] 31) := hide (by have := RowIs.new (w.alloc (.cells #[.slice h0.a h0.len h0.cap, .slice h1.a h1.len h1.cap] 31)) #[.slice g0.a g0.len g0.cap, .slice g1.a g1.len g1.cap] 31; simpa using this)
  have B := hide (bAl (bAl (Below.refl w.heap.size w) (.cells #[.slice h0.a h0.len h0.cap, .slice h1.a h1.len h1.cap] 31)) (.cells #[.slice g0.a g0.len g0.cap, .slice g1.a g1.len g1.cap] 31))
  clear m1 m2 hn
  go_enter Try.func8, Try.ntmps8
  go_wp2_with fail
  refine (unhide q0 _ ((unhide M0).keep (unhide B)) ((unhide P0).keep (unhide B))).mono ?_
  rintro r w1 ⟨rfl, hb1⟩
  replace X := hide ((unhide X).keep hb1)
  replace Y := hide ((unhide Y).keep hb1)
  replace B := hide (bTr (unhide B) hb1)
  clear hb1 
  have c1 := (unhide X).at (o := 1) (v := .slice h1.a h1.len h1.cap) rfl
  have d1 := (unhide Y).at (o := 1) (v := .slice g1.a g1.len g1.cap) rfl
  go_wp2_with fail
  refine (unhide q1 _ ((unhide M1).keep (unhide B)) ((unhide P1).keep (unhide B))).mono ?_
  rintro r w2 ⟨rfl, hb1⟩
  replace X := hide ((unhide X).keep hb1)
  replace Y := hide ((unhide Y).keep hb1)
  replace B := hide (bTr (unhide B) hb1)
  clear hb1 c1 d1
  go_wp2_with fail
  go_ret
  exact ⟨rfl, unhide B⟩

theorem listcDirSchema {α : Type} {l : List α} (h : l.length = 2) : ∃ a0 a1, l = [a0, a1] := by
  match l, h with
  | [a0, a1], _ => exact ⟨a0, a1, rfl⟩
theorem listfDirSchema {α : Type} {l : List α} (h : l.length = 2) : ∃ a0 a1, l = [a0, a1] := by
  match l, h with
  | [a0, a1], _ => exact ⟨a0, a1, rfl⟩
section
variable {H : Type} {enc : TypeId × Value → H} {w : World} {base : Nat} {sp : Nat → Bool} {held : Bool}
set_option maxRecDepth 100000 in
theorem read_DirSchema {n : Nat} {cs : List Value} {x : DataW H × List MemPlace} (h : DataW.trod enc Try.prog w base sp held n 25 cs = some x) : ∃ e : DirSchemaE, cs = [.slice e.h0.a e.h0.len e.h0.cap, .slice e.h1.a e.h1.len e.h1.cap] ∧ DirSchemaN e.t ∧ DirSchemaM w 0 e := by
  obtain ⟨xs, m, rfl, _, hlen, hx, hf⟩ := DataW.trod_struct Try.underlying25 h
  have hc : Try.prog.cellsOf 25 = 2 := by kernel_rfl
  have ky0 : Try.prog.cellsOf 22 = 1 := by kernel_rfl
  have ky1 : Try.prog.cellsOf 23 = 1 := by kernel_rfl
  obtain ⟨c0, c1, rfl⟩ := listcDirSchema (hlen.trans hc)
  obtain ⟨x0, x1, rfl⟩ := listfDirSchema hx
  have h0 : DataW.trod enc Try.prog w base sp held m 22 [c0] = some x0 := by have := hf 0 _ rfl; simpa [ky0, ky1] using this
  have g0 : ∃ a l c, c0 = .slice a l c := by
    rcases Go.Deep.open_slice Try.underlying22 h0 with ⟨hcs, _⟩ | ⟨a', len', cap', _, _, _, _, hcs, _⟩
    · simp at hcs; exact ⟨_, _, _, hcs⟩
    · simp at hcs; exact ⟨_, _, _, hcs⟩
  obtain ⟨a0, b0, d0, rfl⟩ := g0
  obtain ⟨y0, s0, ok0, ml0⟩ := readsAttrType h0
  have h1 : DataW.trod enc Try.prog w base sp held m 23 [c1] = some x1 := by have := hf 1 _ rfl; simpa [ky0, ky1] using this
  have g1 : ∃ a l c, c1 = .slice a l c := by
    rcases Go.Deep.open_slice Try.underlying23 h1 with ⟨hcs, _⟩ | ⟨a', len', cap', _, _, _, _, hcs, _⟩
    · simp at hcs; exact ⟨_, _, _, hcs⟩
    · simp at hcs; exact ⟨_, _, _, hcs⟩
  obtain ⟨a1, b1, d1, rfl⟩ := g1
  obtain ⟨y1, s1, ok1, ml1⟩ := readsClass h1
  exact ⟨⟨⟨y0, y1⟩, ⟨a0, b0, d0⟩, ⟨a1, b1, d1⟩⟩, rfl, ⟨ok0, ml0, ok1, ml1, trivial⟩, ⟨s0, s1, trivial⟩⟩
set_option maxRecDepth 100000 in
theorem came_DirSchema {r : Reach} {b0 : Nat} {v0 : Value} {d : DataW H} {q : List MemPlace} (hv : Value.okWide Try.prog w r b0 25 v0) (h : DataW.Trod enc Try.prog w base sp held 25 v0 d q) : ∃ e : DirSchemaE, v0 = .agg #[.slice e.h0.a e.h0.len e.h0.cap, .slice e.h1.a e.h1.len e.h1.cap] ∧ DirSchemaN e.t ∧ DirSchemaM w 0 e := by
  obtain ⟨cs, rfl, _⟩ := okWide_struct Try.underlying25 hv
  obtain ⟨fuel, hf0⟩ := h
  obtain ⟨e, h1, h2, h3⟩ := read_DirSchema hf0
  refine ⟨e, ?_, h2, h3⟩
  obtain ⟨l⟩ := cs
  simp only [Value.cells] at h1
  rw [h1]
end
end Go.Proofs.Ytobmdeoppbjjpaa.V
