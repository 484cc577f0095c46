/- impl.Server in memory, by what it holds: sized, copied, held against itself, read. -/
import Derived.Test.YtflabaknembioaaOCl
namespace Go.Proofs.Ytflabaknembioaa.V
set_option linter.unusedSimpArgs false
open Go.ChangeShapes Go.WideShapes Go.RowKit

structure ServerT where
  f0 : List ClientT
  f1 : List Int
  f2 : Int
  f3 : Int
structure ServerE where
  t : ServerT
  h0 : Hd
  h1 : Hd
structure ServerN (x : ServerT) : Prop where
  o0 : ∀ q ∈ x.f0, ClientN q
  l0 : x.f0.length ≤ maxLen
  o1 : ∀ q ∈ x.f1, q = q
  l1 : x.f1.length ≤ maxLen
  tt : True
structure ServerSm (x : ServerT) : Prop where
  l0 : x.f0.length ≤ 1048576
  o0 : ∀ q ∈ x.f0, ClientSm q
  l1 : x.f1.length ≤ 1048576
  tt : True
structure ServerM (w : World) (lo : Nat) (e : ServerE) : Prop where
  m0 : SqClient w lo e.h0 e.t.f0
  m1 : SqB w lo e.h1 e.t.f1
  tt : True
theorem ServerM.fr {w w1 : World} {lo : Nat} {e : ServerE} (h : ServerM w lo e) (hf : Fr lo w w1) : ServerM w1 lo e := ⟨h.m0.fr hf, h.m1.fr hf, h.tt⟩
theorem ServerM.lo {w : World} {lo lo' : Nat} {e : ServerE} (h : ServerM w lo e) (hl : lo' ≤ lo) : ServerM w lo' e := ⟨h.m0.lo hl, h.m1.lo hl, h.tt⟩
theorem ServerM.keep {w w1 : World} {lo : Nat} {e : ServerE} (h : ServerM w lo e) (hb : Below w.heap.size w w1) : ServerM w1 lo e := h.fr (Fr.below hb lo)
set_option maxRecDepth 20000 in
set_option maxHeartbeats 2000000 in
theorem szServer_n (e : ServerE) (left : Int) (w : World) (h0 : 0 ≤ left) (h1 : left ≤ 1048576) (ho : ServerN e.t) (hm : ServerM w 0 e) :
    Calls Try.prog 4 #[.agg #[.slice e.h0.a e.h0.len e.h0.cap, .slice e.h1.a e.h1.len e.h1.cap, .int .i64 e.t.f2, .int .i64 e.t.f3], .int .i64 left] w fun r w' => (∃ m : Int, -1 ≤ m ∧ m ≤ left ∧ (0 ≤ m → ServerSm e.t) ∧ r = .returned (.int .i64 m)) ∧ Below w.heap.size w w' := by
  have q0 := hide (fun l w h0 h1 hs => szClientS_n e.h0 e.t.f0 l w h0 h1 ho.o0 ho.l0 hs)
  have M0 := hide hm.m0
  have q1 := hide (fun l w h0 h1 hs => szByteS_n e.h1 e.t.f1 l w h0 h1 ho.o1 ho.l1 hs)
  have M1 := hide hm.m1
  have R := hide (RowIs.new w #[.slice e.h0.a e.h0.len e.h0.cap, .slice e.h1.a e.h1.len e.h1.cap, .int .i64 e.t.f2, .int .i64 e.t.f3] 25)
  have B := hide (bAl (Below.refl w.heap.size w) (.cells #[.slice e.h0.a e.h0.len e.h0.cap, .slice e.h1.a e.h1.len e.h1.cap, .int .i64 e.t.f2, .int .i64 e.t.f3] 25))
  clear ho hm
  go_enter Try.func4, Try.ntmps4
  go_wp2_with fail
  refine (unhide q0 _ _ (by omega) (by omega) ((unhide M0).keep (unhide B))).mono ?_
  rintro r w1 ⟨⟨m0, x0, y0, z0, rfl⟩, hb1⟩
  have Z0 := hide z0
  clear z0
  replace R := hide ((unhide R).keep hb1)
  replace B := hide (bTr (unhide B) hb1)
  clear hb1 
  by_cases e0 : m0 < 0
  · go_wp2_with fail
    go_ret
    exact ⟨⟨-1, by omega, by omega, by omega, rfl⟩, unhide B⟩
  have c1 := (unhide R).at (o := 1) (v := .slice e.h1.a e.h1.len e.h1.cap) rfl
  go_wp2_with fail
  refine (unhide q1 _ _ (by omega) (by omega) ((unhide M1).keep (unhide B))).mono ?_
  rintro r w2 ⟨⟨m1, x1, y1, z1, rfl⟩, hb1⟩
  have Z1 := hide z1
  clear z1
  replace R := hide ((unhide R).keep hb1)
  replace B := hide (bTr (unhide B) hb1)
  clear hb1 c1
  by_cases e1 : m1 < 0
  · go_wp2_with fail
    go_ret
    exact ⟨⟨-1, by omega, by omega, by omega, rfl⟩, unhide B⟩
  go_wp2_with fail
  go_ret
  exact ⟨⟨_, by omega, by omega, fun _ => ⟨(unhide Z0 (by omega)).1, (unhide Z0 (by omega)).2, unhide Z1 (by omega), trivial⟩, rfl⟩, unhide B⟩

set_option maxRecDepth 40000 in
set_option maxHeartbeats 8000000 in
theorem toServer_n (e : ServerE) (w : World) (hs : ServerSm e.t) (hm : ServerM w 0 e) :
    Calls Try.prog 6 #[.agg #[.slice e.h0.a e.h0.len e.h0.cap, .slice e.h1.a e.h1.len e.h1.cap, .int .i64 e.t.f2, .int .i64 e.t.f3]] w fun r w' => (∃ e' : ServerE, e'.t = e.t ∧ r = .returned (.agg #[.slice e'.h0.a e'.h0.len e'.h0.cap, .slice e'.h1.a e'.h1.len e'.h1.cap, .int .i64 e'.t.f2, .int .i64 e'.t.f3]) ∧ ServerM w' w.heap.size e') ∧ Below w.heap.size w w' := by
  have q0 := hide (fun w hm => toClientS_n e.h0 e.t.f0 w ⟨hs.l0, hs.o0⟩ hm)
  have M0 := hide hm.m0
  have q1 := hide (fun w hm => toByteS_n e.h1 e.t.f1 w hs.l1 hm)
  have M1 := hide hm.m1
  clear hs hm
  obtain ⟨W0, hW0⟩ : ∃ W, W = ((w.alloc (.cells #[.slice e.h0.a e.h0.len e.h0.cap, .slice e.h1.a e.h1.len e.h1.cap, .int .i64 e.t.f2, .int .i64 e.t.f3] 25)).alloc (.cells #[.slice none 0 0, .slice none 0 0, .int .i64 0, .int .i64 0] 30)).alloc (.cells #[.slice none 0 0, .slice none 0 0, .int .i64 0, .int .i64 0] 30) := ⟨_, rfl⟩
  have z0 : W0.heap.size = w.heap.size + 1 + 1 + 1 := by rw [hW0]; simp
  have b0 : Below w.heap.size w W0 := by rw [hW0]; exact bAl (bAl (bAl (Below.refl _ _) _) _) _
  have A0 : RowIs W0 w.heap.size #[.slice e.h0.a e.h0.len e.h0.cap, .slice e.h1.a e.h1.len e.h1.cap, .int .i64 e.t.f2, .int .i64 e.t.f3] 25 := by rw [hW0]; exact ((RowIs.new w _ _).keep (bAl (Below.refl _ _) _)).keep (bAl (Below.refl _ _) _)
  have Z0 : RowIs W0 (w.heap.size + 1) #[.slice none 0 0, .slice none 0 0, .int .i64 0, .int .i64 0] 30 := by
    rw [hW0]
    have := (RowIs.new (w.alloc (.cells #[.slice e.h0.a e.h0.len e.h0.cap, .slice e.h1.a e.h1.len e.h1.cap, .int .i64 e.t.f2, .int .i64 e.t.f3] 25)) #[.slice none 0 0, .slice none 0 0, .int .i64 0, .int .i64 0] 30).keep (bAl (Below.refl _ _) (.cells #[.slice none 0 0, .slice none 0 0, .int .i64 0, .int .i64 0] 30))
    simpa using this
  have O0 : RowIs W0 (w.heap.size + 1 + 1) #[.slice none 0 0, .slice none 0 0, .int .i64 0, .int .i64 0] 30 := by
    rw [hW0]
    have := RowIs.new ((w.alloc (.cells #[.slice e.h0.a e.h0.len e.h0.cap, .slice e.h1.a e.h1.len e.h1.cap, .int .i64 e.t.f2, .int .i64 e.t.f3] 25)).alloc (.cells #[.slice none 0 0, .slice none 0 0, .int .i64 0, .int .i64 0] 30)) #[.slice none 0 0, .slice none 0 0, .int .i64 0, .int .i64 0] 30
    simpa using this
  have HW := hide hW0
  have hne1 : w.heap.size ≠ w.heap.size + 1 + 1 := by omega
  have hne2 : w.heap.size + 1 ≠ w.heap.size + 1 + 1 := by omega
  clear hW0
  go_enter Try.func6, Try.ntmps6
  go_wp2_with fail
  rw [← unhide HW]
  clear HW
  have Oh := hide O0
  clear O0
  have Zh := hide Z0
  clear Z0
  have Ah := hide A0
  clear A0
  have Bh := hide b0
  have Gh : Hid (w.heap.size + 3 ≤ W0.heap.size) := hide (by omega)
  clear b0 z0
  refine (unhide q0 _ ((unhide M0).keep (unhide Bh))).mono ?_
  rintro r v0 ⟨⟨k0, rfl, hk0⟩, hb1⟩
  have K0 := hide (hk0.lo (unhide Gh))
  clear hk0
  have Gn : Hid (w.heap.size + 3 ≤ v0.heap.size) := hide (Nat.le_trans (unhide Gh) hb1.size)
  clear Gh
  have Gh := Gn
  clear Gn
  replace Oh := hide ((unhide Oh).keep hb1)
  replace Zh := hide ((unhide Zh).keep hb1)
  replace Ah := hide ((unhide Ah).keep hb1)
  replace Bh := hide (bTr (unhide Bh) hb1)
  clear hb1
  have k_0 := (unhide Oh).at (o := 0) (v := .slice none 0 0) rfl
  have g_0 := (unhide Oh).froz 0
  have a_1 := (unhide Ah).at (o := 1) (v := .slice e.h1.a e.h1.len e.h1.cap) rfl
  obtain ⟨W1, hW⟩ : ∃ W, W = (v0.setCell ⟨w.heap.size + 1 + 1, 0, none⟩ (.slice k0.a k0.len k0.cap)) := ⟨_, rfl⟩
  have On : Hid (RowIs W1 (w.heap.size + 1 + 1) #[.slice k0.a k0.len k0.cap, .slice none 0 0, .int .i64 0, .int .i64 0] 30) := hide (by have h := ((unhide Oh).set 0 (.slice k0.a k0.len k0.cap)); simp only [List.setIfInBounds_toArray, List.set_cons_zero, List.set_cons_succ] at h; rw [hW]; exact h)
  have Zn : Hid (RowIs W1 (w.heap.size + 1) #[.slice none 0 0, .slice none 0 0, .int .i64 0, .int .i64 0] 30) := hide (by rw [hW]; exact ((unhide Zh).setOther (o' := 0) (.slice k0.a k0.len k0.cap) hne2))
  have An : Hid (RowIs W1 w.heap.size #[.slice e.h0.a e.h0.len e.h0.cap, .slice e.h1.a e.h1.len e.h1.cap, .int .i64 e.t.f2, .int .i64 e.t.f3] 25) := hide (by rw [hW]; exact ((unhide Ah).setOther (o' := 0) (.slice k0.a k0.len k0.cap) hne1))
  have Bn : Hid (Below w.heap.size w W1) := hide (by rw [hW]; exact (bSt (unhide Bh) (b := w.heap.size + 1 + 1) (by omega) 0 (.slice k0.a k0.len k0.cap)))
  have Gn : Hid (w.heap.size + 3 ≤ W1.heap.size) := hide (by rw [hW]; simp only [size_sc]; exact unhide Gh)
  replace K0 := hide (show SqClient W1 (w.heap.size + 3) k0 e.t.f0 by rw [hW]; exact (unhide K0).fr ((Fr.below (Below.refl _ v0) _).sets (.slice k0.a k0.len k0.cap) (by omega)))
  have HW := hide hW.symm
  clear hW Oh Zh Ah Bh Gh
  have Oh := On
  clear On
  have Zh := Zn
  clear Zn
  have Ah := An
  clear An
  have Bh := Bn
  clear Bn
  have Gh := Gn
  clear Gn
  go_wp2_with fail
  rw [unhide HW]
  clear HW k_0 g_0 a_1
  refine (unhide q1 _ ((unhide M1).keep (unhide Bh))).mono ?_
  rintro r v1 ⟨⟨k1, rfl, hk1⟩, hb1⟩
  have K1 := hide (hk1.lo (unhide Gh))
  clear hk1
  have Gn : Hid (w.heap.size + 3 ≤ v1.heap.size) := hide (Nat.le_trans (unhide Gh) hb1.size)
  clear Gh
  have Gh := Gn
  clear Gn
  replace Oh := hide ((unhide Oh).keep hb1)
  replace Zh := hide ((unhide Zh).keep hb1)
  replace Ah := hide ((unhide Ah).keep hb1)
  replace Bh := hide (bTr (unhide Bh) hb1)
  replace K0 := hide ((unhide K0).keep hb1)
  clear hb1
  have k_1 := (unhide Oh).at (o := 1) (v := .slice none 0 0) rfl
  have g_1 := (unhide Oh).froz 1
  have k_2 := (unhide Oh).at (o := 2) (v := .int .i64 0) rfl
  have g_2 := (unhide Oh).froz 2
  have k_3 := (unhide Oh).at (o := 3) (v := .int .i64 0) rfl
  have g_3 := (unhide Oh).froz 3
  have zO := (unhide Oh).lt
  have zA := (unhide Ah).lt
  have a_2 := (unhide Ah).at (o := 2) (v := .int .i64 e.t.f2) rfl
  have a_3 := (unhide Ah).at (o := 3) (v := .int .i64 e.t.f3) rfl
  obtain ⟨W2, hW⟩ : ∃ W, W = (((v1.setCell ⟨w.heap.size + 1 + 1, 1, none⟩ (.slice k1.a k1.len k1.cap)).setCell ⟨w.heap.size + 1 + 1, 2, none⟩ (.int .i64 e.t.f2)).setCell ⟨w.heap.size + 1 + 1, 3, none⟩ (.int .i64 e.t.f3)) := ⟨_, rfl⟩
  have On : Hid (RowIs W2 (w.heap.size + 1 + 1) #[.slice k0.a k0.len k0.cap, .slice k1.a k1.len k1.cap, .int .i64 e.t.f2, .int .i64 e.t.f3] 30) := hide (by have h := ((((unhide Oh).set 1 (.slice k1.a k1.len k1.cap)).set 2 (.int .i64 e.t.f2)).set 3 (.int .i64 e.t.f3)); simp only [List.setIfInBounds_toArray, List.set_cons_zero, List.set_cons_succ] at h; rw [hW]; exact h)
  have Zn : Hid (RowIs W2 (w.heap.size + 1) #[.slice none 0 0, .slice none 0 0, .int .i64 0, .int .i64 0] 30) := hide (by rw [hW]; exact ((((unhide Zh).setOther (o' := 1) (.slice k1.a k1.len k1.cap) hne2).setOther (o' := 2) (.int .i64 e.t.f2) hne2).setOther (o' := 3) (.int .i64 e.t.f3) hne2))
  have An : Hid (RowIs W2 w.heap.size #[.slice e.h0.a e.h0.len e.h0.cap, .slice e.h1.a e.h1.len e.h1.cap, .int .i64 e.t.f2, .int .i64 e.t.f3] 25) := hide (by rw [hW]; exact ((((unhide Ah).setOther (o' := 1) (.slice k1.a k1.len k1.cap) hne1).setOther (o' := 2) (.int .i64 e.t.f2) hne1).setOther (o' := 3) (.int .i64 e.t.f3) hne1))
  have Bn : Hid (Below w.heap.size w W2) := hide (by rw [hW]; exact (bSt (bSt (bSt (unhide Bh) (b := w.heap.size + 1 + 1) (by omega) 1 (.slice k1.a k1.len k1.cap)) (b := w.heap.size + 1 + 1) (by omega) 2 (.int .i64 e.t.f2)) (b := w.heap.size + 1 + 1) (by omega) 3 (.int .i64 e.t.f3)))
  have Gn : Hid (w.heap.size + 3 ≤ W2.heap.size) := hide (by rw [hW]; simp only [size_sc]; exact unhide Gh)
  replace K0 := hide (show SqClient W2 (w.heap.size + 3) k0 e.t.f0 by rw [hW]; exact (unhide K0).fr ((((Fr.below (Below.refl _ v1) _).sets (.slice k1.a k1.len k1.cap) (by omega)).sets (.int .i64 e.t.f2) (by omega)).sets (.int .i64 e.t.f3) (by omega)))
  replace K1 := hide (show SqB W2 (w.heap.size + 3) k1 e.t.f1 by rw [hW]; exact (unhide K1).fr ((((Fr.below (Below.refl _ v1) _).sets (.slice k1.a k1.len k1.cap) (by omega)).sets (.int .i64 e.t.f2) (by omega)).sets (.int .i64 e.t.f3) (by omega)))
  have HW := hide hW.symm
  clear hW Oh Zh Ah Bh Gh
  have Oh := On
  clear On
  have Zh := Zn
  clear Zn
  have Ah := An
  clear An
  have Bh := Bn
  clear Bn
  have Gh := Gn
  clear Gn
  go_upto_region 6 with fail
  rw [unhide HW]
  clear HW k_1 g_1 k_2 g_2 k_3 g_3 zO zA a_2 a_3
  go_step
  refine wpList_load_row rfl 30 _ rfl (w.heap.size + 1 + 1) rfl 30 _ (0, 0) _ (unhide Oh) Try.underlying30 rfl (by kernel_rfl) ?_
  refine wpList_store_row rfl 30 _ _ rfl (w.heap.size + 1) #[.slice k0.a k0.len k0.cap, .slice k1.a k1.len k1.cap, .int .i64 e.t.f2, .int .i64 e.t.f3] rfl rfl 30 _ (unhide Zh) (by kernel_rfl) rfl (by simp [Value.oneCell']) ?_
  have Z6 := hide (setRow_heap W2 (w.heap.size + 1) _ #[.slice k0.a k0.len k0.cap, .slice k1.a k1.len k1.cap, .int .i64 e.t.f2, .int .i64 e.t.f3] _ _ (unhide Zh))
  go_wp2_with fail
  refine bodyPost_ret (v := .agg #[.slice k0.a k0.len k0.cap, .slice k1.a k1.len k1.cap, .int .i64 e.t.f2, .int .i64 e.t.f3]) (results_cell_row rfl _ _ (w.heap.size + 1) 30 _ (0, 0) _ rfl (unhide Z6) Try.underlying30 rfl (by kernel_rfl)) rfl ⟨⟨⟨e.t, k0, k1⟩, rfl, rfl, ⟨((unhide K0).fr ((Fr.below (Below.refl _ _) _).row _ (by omega))).lo (by omega), ((unhide K1).fr ((Fr.below (Below.refl _ _) _).row _ (by omega))).lo (by omega), trivial⟩⟩, bRow (unhide Bh) (by omega) _⟩

set_option maxRecDepth 20000 in
set_option maxHeartbeats 2000000 in
theorem eqServer_n (e1 e2 : ServerE) (w : World) (ht : e2.t = e1.t) (hn : ServerN e1.t) (m1 : ServerM w 0 e1) (m2 : ServerM w 0 e2) :
    Calls Try.prog 8 #[.agg #[.slice e1.h0.a e1.h0.len e1.h0.cap, .slice e1.h1.a e1.h1.len e1.h1.cap, .int .i64 e1.t.f2, .int .i64 e1.t.f3], .agg #[.slice e2.h0.a e2.h0.len e2.h0.cap, .slice e2.h1.a e2.h1.len e2.h1.cap, .int .i64 e2.t.f2, .int .i64 e2.t.f3]] w fun r w' => r = .returned (.bool true) ∧ Below w.heap.size w w' := by
  obtain ⟨t, h0, h1⟩ := e1
  obtain ⟨t', g0, g1⟩ := e2
  simp only at ht
  subst ht
  have q0 := hide (fun w u1 u2 => eqClientS_n h0 g0 t'.f0 w hn.l0 hn.o0 u1 u2)
  have M0 := hide m1.m0
  have P0 := hide m2.m0
  have q1 := hide (fun w u1 u2 => eqByteS_n h1 g1 t'.f1 w hn.l1 u1 u2)
  have M1 := hide m1.m1
  have P1 := hide m2.m1
  have X := hide ((RowIs.new w #[.slice h0.a h0.len h0.cap, .slice h1.a h1.len h1.cap, .int .i64 t'.f2, .int .i64 t'.f3] 30).keep (bAl (Below.refl _ _) (.cells #[.slice g0.a g0.len g0.cap, .slice g1.a g1.len g1.cap, .int .i64 t'.f2, .int .i64 t'.f3] 30)))
  have Y : Hid (RowIs ((w.alloc (.cells #[.slice h0.a h0.len h0.cap, .slice h1.a h1.len h1.cap, .int .i64 t'.f2, .int .i64 t'.f3] 30)).alloc (.cells #[.slice g0.a g0.len g0.cap, .slice g1.a g1.len g1.cap, .int .i64 t'.f2, .int .i64 t'.f3] 30)) (w.heap.size + 1) #[.slice g0.a g0.len g0.cap, .slice g1.a g1.len g1.cap, .int .i64 t'.f2, .int .i64 t'.f3] 30) := hide (by have := RowIs.new (w.alloc (.cells #[.slice h0.a h0.len h0.cap, .slice h1.a h1.len h1.cap, .int .i64 t'.f2, .int .i64 t'.f3] 30)) #[.slice g0.a g0.len g0.cap, .slice g1.a g1.len g1.cap, .int .i64 t'.f2, .int .i64 t'.f3] 30; simpa using this)
  have B := hide (bAl (bAl (Below.refl w.heap.size w) (.cells #[.slice h0.a h0.len h0.cap, .slice h1.a h1.len h1.cap, .int .i64 t'.f2, .int .i64 t'.f3] 30)) (.cells #[.slice g0.a g0.len g0.cap, .slice g1.a g1.len g1.cap, .int .i64 t'.f2, .int .i64 t'.f3] 30))
  clear m1 m2 hn
  go_enter Try.func8, Try.ntmps8
  go_wp2_with fail
  refine (unhide q0 _ ((unhide M0).keep (unhide B)) ((unhide P0).keep (unhide B))).mono ?_
  rintro r w1 ⟨rfl, hb1⟩
  replace X := hide ((unhide X).keep hb1)
  replace Y := hide ((unhide Y).keep hb1)
  replace B := hide (bTr (unhide B) hb1)
  clear hb1 
  have c1 := (unhide X).at (o := 1) (v := .slice h1.a h1.len h1.cap) rfl
  have d1 := (unhide Y).at (o := 1) (v := .slice g1.a g1.len g1.cap) rfl
  go_wp2_with fail
  refine (unhide q1 _ ((unhide M1).keep (unhide B)) ((unhide P1).keep (unhide B))).mono ?_
  rintro r w2 ⟨rfl, hb1⟩
  replace X := hide ((unhide X).keep hb1)
  replace Y := hide ((unhide Y).keep hb1)
  replace B := hide (bTr (unhide B) hb1)
  clear hb1 c1 d1
  have c2 := (unhide X).at (o := 2) (v := .int .i64 t'.f2) rfl
  have d2 := (unhide Y).at (o := 2) (v := .int .i64 t'.f2) rfl
  have c3 := (unhide X).at (o := 3) (v := .int .i64 t'.f3) rfl
  have d3 := (unhide Y).at (o := 3) (v := .int .i64 t'.f3) rfl
  go_wp2_with fail
  go_ret
  exact ⟨rfl, unhide B⟩

theorem listcServer {α : Type} {l : List α} (h : l.length = 4) : ∃ a0 a1 a2 a3, l = [a0, a1, a2, a3] := by
  match l, h with
  | [a0, a1, a2, a3], _ => exact ⟨a0, a1, a2, a3, rfl⟩
theorem listfServer {α : Type} {l : List α} (h : l.length = 4) : ∃ a0 a1 a2 a3, l = [a0, a1, a2, a3] := by
  match l, h with
  | [a0, a1, a2, a3], _ => exact ⟨a0, a1, a2, a3, rfl⟩
section
variable {H : Type} {enc : TypeId × Value → H} {w : World} {base : Nat} {sp : Nat → Bool} {held : Bool}
set_option maxRecDepth 100000 in
theorem read_Server {n : Nat} {cs : List Value} {x : DataW H × List MemPlace} (h : DataW.trod enc Try.prog w base sp held n 25 cs = some x) : ∃ e : ServerE, cs = [.slice e.h0.a e.h0.len e.h0.cap, .slice e.h1.a e.h1.len e.h1.cap, .int .i64 e.t.f2, .int .i64 e.t.f3] ∧ ServerN e.t ∧ ServerM w 0 e := by
  obtain ⟨xs, m, rfl, _, hlen, hx, hf⟩ := DataW.trod_struct Try.underlying25 h
  have hc : Try.prog.cellsOf 25 = 4 := by kernel_rfl
  have ky0 : Try.prog.cellsOf 23 = 1 := by kernel_rfl
  have ky1 : Try.prog.cellsOf 22 = 1 := by kernel_rfl
  have ky2 : Try.prog.cellsOf 3 = 1 := by kernel_rfl
  obtain ⟨c0, c1, c2, c3, rfl⟩ := listcServer (hlen.trans hc)
  obtain ⟨x0, x1, x2, x3, rfl⟩ := listfServer hx
  have h0 : DataW.trod enc Try.prog w base sp held m 22 [c0] = some x0 := by have := hf 0 _ rfl; simpa [ky0, ky1, ky2] using this
  have g0 : ∃ a l c, c0 = .slice a l c := by
    rcases Go.Deep.open_slice Try.underlying22 h0 with ⟨hcs, _⟩ | ⟨a', len', cap', _, _, _, _, hcs, _⟩
    · simp at hcs; exact ⟨_, _, _, hcs⟩
    · simp at hcs; exact ⟨_, _, _, hcs⟩
  obtain ⟨a0, b0, d0, rfl⟩ := g0
  obtain ⟨y0, s0, ok0, ml0⟩ := readsClient h0
  have h1 : DataW.trod enc Try.prog w base sp held m 23 [c1] = some x1 := by have := hf 1 _ rfl; simpa [ky0, ky1, ky2] using this
  have g1 : ∃ a l c, c1 = .slice a l c := by
    rcases Go.Deep.open_slice Try.underlying23 h1 with ⟨hcs, _⟩ | ⟨a', len', cap', _, _, _, _, hcs, _⟩
    · simp at hcs; exact ⟨_, _, _, hcs⟩
    · simp at hcs; exact ⟨_, _, _, hcs⟩
  obtain ⟨a1, b1, d1, rfl⟩ := g1
  obtain ⟨y1, s1, ok1, ml1⟩ := readsB h1
  have h2 : DataW.trod enc Try.prog w base sp held m 3 [c2] = some x2 := by have := hf 2 _ rfl; simpa [ky0, ky1, ky2] using this
  obtain ⟨y2, e2, _, _⟩ := DataW.trod_int Try.underlying3 h2
  simp at e2
  subst e2
  have h3 : DataW.trod enc Try.prog w base sp held m 3 [c3] = some x3 := by have := hf 3 _ rfl; simpa [ky0, ky1, ky2] using this
  obtain ⟨y3, e3, _, _⟩ := DataW.trod_int Try.underlying3 h3
  simp at e3
  subst e3
  exact ⟨⟨⟨y0, y1, y2, y3⟩, ⟨a0, b0, d0⟩, ⟨a1, b1, d1⟩⟩, rfl, ⟨ok0, ml0, ok1, ml1, trivial⟩, ⟨s0, s1, trivial⟩⟩
set_option maxRecDepth 100000 in
theorem came_Server {r : Reach} {b0 : Nat} {v0 : Value} {d : DataW H} {q : List MemPlace} (hv : Value.okWide Try.prog w r b0 25 v0) (h : DataW.Trod enc Try.prog w base sp held 25 v0 d q) : ∃ e : ServerE, v0 = .agg #[.slice e.h0.a e.h0.len e.h0.cap, .slice e.h1.a e.h1.len e.h1.cap, .int .i64 e.t.f2, .int .i64 e.t.f3] ∧ ServerN e.t ∧ ServerM w 0 e := by
  obtain ⟨cs, rfl, _⟩ := okWide_struct Try.underlying25 hv
  obtain ⟨fuel, hf0⟩ := h
  obtain ⟨e, h1, h2, h3⟩ := read_Server hf0
  refine ⟨e, ?_, h2, h3⟩
  obtain ⟨l⟩ := cs
  simp only [Value.cells] at h1
  rw [h1]
end
end Go.Proofs.Ytflabaknembioaa.V
