/- impl.RoleSet in memory, by what it holds: sized, copied, held against itself, read. -/
import Derived.Test.YtfabfgokammmhaaORo
import Derived.Test.YtfabfgokammmhaaOAp
namespace Go.Proofs.Ytfabfgokammmhaa.V
set_option linter.unusedSimpArgs false
open Go.ChangeShapes Go.WideShapes Go.RowKit

structure RoleSetT where
  f0 : List RoleT
  f1 : List ApartT
  f2 : List ByteArray
structure RoleSetE where
  t : RoleSetT
  h0 : Hd
  h1 : Hd
  h2 : Hd
structure RoleSetN (x : RoleSetT) : Prop where
  o0 : ∀ q ∈ x.f0, RoleN q
  l0 : x.f0.length ≤ maxLen
  o1 : ∀ q ∈ x.f1, ApartN q
  l1 : x.f1.length ≤ maxLen
  o2 : ∀ q ∈ x.f2, ByteArray.size q ≤ maxLen
  l2 : x.f2.length ≤ maxLen
  tt : True
structure RoleSetSm (x : RoleSetT) : Prop where
  l0 : x.f0.length ≤ 1048576
  o0 : ∀ q ∈ x.f0, RoleSm q
  l1 : x.f1.length ≤ 1048576
  o1 : ∀ q ∈ x.f1, ApartSm q
  l2 : x.f2.length ≤ 1048576
  tt : True
structure RoleSetM (w : World) (lo : Nat) (e : RoleSetE) : Prop where
  m0 : SqRole w lo e.h0 e.t.f0
  m1 : SqApart w lo e.h1 e.t.f1
  m2 : SqS w lo e.h2 e.t.f2
  tt : True
theorem RoleSetM.fr {w w1 : World} {lo : Nat} {e : RoleSetE} (h : RoleSetM w lo e) (hf : Fr lo w w1) : RoleSetM w1 lo e := ⟨h.m0.fr hf, h.m1.fr hf, h.m2.fr hf, h.tt⟩
theorem RoleSetM.lo {w : World} {lo lo' : Nat} {e : RoleSetE} (h : RoleSetM w lo e) (hl : lo' ≤ lo) : RoleSetM w lo' e := ⟨h.m0.lo hl, h.m1.lo hl, h.m2.lo hl, h.tt⟩
theorem RoleSetM.keep {w w1 : World} {lo : Nat} {e : RoleSetE} (h : RoleSetM w lo e) (hb : Below w.heap.size w w1) : RoleSetM w1 lo e := h.fr (Fr.below hb lo)
set_option maxRecDepth 20000 in
set_option maxHeartbeats 2000000 in
theorem szRoleSet_n (e : RoleSetE) (left : Int) (w : World) (h0 : 0 ≤ left) (h1 : left ≤ 1048576) (ho : RoleSetN e.t) (hm : RoleSetM w 0 e) :
    Calls Try.prog 4 #[.agg #[.slice e.h0.a e.h0.len e.h0.cap, .slice e.h1.a e.h1.len e.h1.cap, .slice e.h2.a e.h2.len e.h2.cap], .int .i64 left] w fun r w' => (∃ m : Int, -1 ≤ m ∧ m ≤ left ∧ (0 ≤ m → RoleSetSm e.t) ∧ r = .returned (.int .i64 m)) ∧ Below w.heap.size w w' := by
  have q0 := hide (fun l w h0 h1 hs => szRoleS_n e.h0 e.t.f0 l w h0 h1 ho.o0 ho.l0 hs)
  have M0 := hide hm.m0
  have q1 := hide (fun l w h0 h1 hs => szApartS_n e.h1 e.t.f1 l w h0 h1 ho.o1 ho.l1 hs)
  have M1 := hide hm.m1
  have q2 := hide (fun l w h0 h1 hs => szStringS_n e.h2 e.t.f2 l w h0 h1 ho.o2 ho.l2 hs)
  have M2 := hide hm.m2
  have R := hide (RowIs.new w #[.slice e.h0.a e.h0.len e.h0.cap, .slice e.h1.a e.h1.len e.h1.cap, .slice e.h2.a e.h2.len e.h2.cap] 26)
  have B := hide (bAl (Below.refl w.heap.size w) (.cells #[.slice e.h0.a e.h0.len e.h0.cap, .slice e.h1.a e.h1.len e.h1.cap, .slice e.h2.a e.h2.len e.h2.cap] 26))
  clear ho hm
  go_enter Try.func4, Try.ntmps4
  go_wp2_with fail
  refine (unhide q0 _ _ (by omega) (by omega) ((unhide M0).keep (unhide B))).mono ?_
  rintro r w1 ⟨⟨m0, x0, y0, z0, rfl⟩, hb1⟩
  have Z0 := hide z0
  clear z0
  replace R := hide ((unhide R).keep hb1)
  replace B := hide (bTr (unhide B) hb1)
  clear hb1 
  by_cases e0 : m0 < 0
  · go_wp2_with fail
    go_ret
    exact ⟨⟨-1, by omega, by omega, by omega, rfl⟩, unhide B⟩
  have c1 := (unhide R).at (o := 1) (v := .slice e.h1.a e.h1.len e.h1.cap) rfl
  go_wp2_with fail
  refine (unhide q1 _ _ (by omega) (by omega) ((unhide M1).keep (unhide B))).mono ?_
  rintro r w2 ⟨⟨m1, x1, y1, z1, rfl⟩, hb1⟩
  have Z1 := hide z1
  clear z1
  replace R := hide ((unhide R).keep hb1)
  replace B := hide (bTr (unhide B) hb1)
  clear hb1 c1
  by_cases e1 : m1 < 0
  · go_wp2_with fail
    go_ret
    exact ⟨⟨-1, by omega, by omega, by omega, rfl⟩, unhide B⟩
  have c2 := (unhide R).at (o := 2) (v := .slice e.h2.a e.h2.len e.h2.cap) rfl
  go_wp2_with fail
  refine (unhide q2 _ _ (by omega) (by omega) ((unhide M2).keep (unhide B))).mono ?_
  rintro r w3 ⟨⟨m2, x2, y2, z2, rfl⟩, hb1⟩
  have Z2 := hide z2
  clear z2
  replace R := hide ((unhide R).keep hb1)
  replace B := hide (bTr (unhide B) hb1)
  clear hb1 c2
  by_cases e2 : m2 < 0
  · go_wp2_with fail
    go_ret
    exact ⟨⟨-1, by omega, by omega, by omega, rfl⟩, unhide B⟩
  go_wp2_with fail
  go_ret
  exact ⟨⟨_, by omega, by omega, fun _ => ⟨(unhide Z0 (by omega)).1, (unhide Z0 (by omega)).2, (unhide Z1 (by omega)).1, (unhide Z1 (by omega)).2, unhide Z2 (by omega), trivial⟩, rfl⟩, unhide B⟩

set_option maxRecDepth 40000 in
set_option maxHeartbeats 8000000 in
theorem toRoleSet_n (e : RoleSetE) (w : World) (hs : RoleSetSm e.t) (hm : RoleSetM w 0 e) :
    Calls Try.prog 6 #[.agg #[.slice e.h0.a e.h0.len e.h0.cap, .slice e.h1.a e.h1.len e.h1.cap, .slice e.h2.a e.h2.len e.h2.cap]] w fun r w' => (∃ e' : RoleSetE, e'.t = e.t ∧ r = .returned (.agg #[.slice e'.h0.a e'.h0.len e'.h0.cap, .slice e'.h1.a e'.h1.len e'.h1.cap, .slice e'.h2.a e'.h2.len e'.h2.cap]) ∧ RoleSetM w' w.heap.size e') ∧ Below w.heap.size w w' := by
  have q0 := hide (fun w hm => toRoleS_n e.h0 e.t.f0 w ⟨hs.l0, hs.o0⟩ hm)
  have M0 := hide hm.m0
  have q1 := hide (fun w hm => toApartS_n e.h1 e.t.f1 w ⟨hs.l1, hs.o1⟩ hm)
  have M1 := hide hm.m1
  have q2 := hide (fun w hm => toStringS_n e.h2 e.t.f2 w hs.l2 hm)
  have M2 := hide hm.m2
  clear hs hm
  obtain ⟨W0, hW0⟩ : ∃ W, W = ((w.alloc (.cells #[.slice e.h0.a e.h0.len e.h0.cap, .slice e.h1.a e.h1.len e.h1.cap, .slice e.h2.a e.h2.len e.h2.cap] 26)).alloc (.cells #[.slice none 0 0, .slice none 0 0, .slice none 0 0] 32)).alloc (.cells #[.slice none 0 0, .slice none 0 0, .slice none 0 0] 32) := ⟨_, rfl⟩
  have z0 : W0.heap.size = w.heap.size + 1 + 1 + 1 := by rw [hW0]; simp
  have b0 : Below w.heap.size w W0 := by rw [hW0]; exact bAl (bAl (bAl (Below.refl _ _) _) _) _
  have A0 : RowIs W0 w.heap.size #[.slice e.h0.a e.h0.len e.h0.cap, .slice e.h1.a e.h1.len e.h1.cap, .slice e.h2.a e.h2.len e.h2.cap] 26 := by rw [hW0]; exact ((RowIs.new w _ _).keep (bAl (Below.refl _ _) _)).keep (bAl (Below.refl _ _) _)
  have Z0 : RowIs W0 (w.heap.size + 1) #[.slice none 0 0, .slice none 0 0, .slice none 0 0] 32 := by
    rw [hW0]
    have := (RowIs.new (w.alloc (.cells #[.slice e.h0.a e.h0.len e.h0.cap, .slice e.h1.a e.h1.len e.h1.cap, .slice e.h2.a e.h2.len e.h2.cap] 26)) #[.slice none 0 0, .slice none 0 0, .slice none 0 0] 32).keep (bAl (Below.refl _ _) (.cells #[.slice none 0 0, .slice none 0 0, .slice none 0 0] 32))
    simpa using this
  have O0 : RowIs W0 (w.heap.size + 1 + 1) #[.slice none 0 0, .slice none 0 0, .slice none 0 0] 32 := by
    rw [hW0]
    have := RowIs.new ((w.alloc (.cells #[.slice e.h0.a e.h0.len e.h0.cap, .slice e.h1.a e.h1.len e.h1.cap, .slice e.h2.a e.h2.len e.h2.cap] 26)).alloc (.cells #[.slice none 0 0, .slice none 0 0, .slice none 0 0] 32)) #[.slice none 0 0, .slice none 0 0, .slice none 0 0] 32
    simpa using this
  have HW := hide hW0
  have hne1 : w.heap.size ≠ w.heap.size + 1 + 1 := by omega
  have hne2 : w.heap.size + 1 ≠ w.heap.size + 1 + 1 := by omega
  clear hW0
  go_enter Try.func6, Try.ntmps6
  go_wp2_with fail
  rw [← unhide HW]
  clear HW
  have Oh := hide O0
  clear O0
  have Zh := hide Z0
  clear Z0
  have Ah := hide A0
  clear A0
  have Bh := hide b0
  have Gh : Hid (w.heap.size + 3 ≤ W0.heap.size) := hide (by omega)
  clear b0 z0
  refine (unhide q0 _ ((unhide M0).keep (unhide Bh))).mono ?_
  rintro r v0 ⟨⟨k0, rfl, hk0⟩, hb1⟩
  have K0 := hide (hk0.lo (unhide Gh))
  clear hk0
  have Gn : Hid (w.heap.size + 3 ≤ v0.heap.size) := hide (Nat.le_trans (unhide Gh) hb1.size)
  clear Gh
  have Gh := Gn
  clear Gn
  replace Oh := hide ((unhide Oh).keep hb1)
  replace Zh := hide ((unhide Zh).keep hb1)
  replace Ah := hide ((unhide Ah).keep hb1)
  replace Bh := hide (bTr (unhide Bh) hb1)
  clear hb1
  have k_0 := (unhide Oh).at (o := 0) (v := .slice none 0 0) rfl
  have g_0 := (unhide Oh).froz 0
  have a_1 := (unhide Ah).at (o := 1) (v := .slice e.h1.a e.h1.len e.h1.cap) rfl
  obtain ⟨W1, hW⟩ : ∃ W, W = (v0.setCell ⟨w.heap.size + 1 + 1, 0, none⟩ (.slice k0.a k0.len k0.cap)) := ⟨_, rfl⟩
  have On : Hid (RowIs W1 (w.heap.size + 1 + 1) #[.slice k0.a k0.len k0.cap, .slice none 0 0, .slice none 0 0] 32) := hide (by have h := ((unhide Oh).set 0 (.slice k0.a k0.len k0.cap)); simp only [List.setIfInBounds_toArray, List.set_cons_zero, List.set_cons_succ] at h; rw [hW]; exact h)
  have Zn : Hid (RowIs W1 (w.heap.size + 1) #[.slice none 0 0, .slice none 0 0, .slice none 0 0] 32) := hide (by rw [hW]; exact ((unhide Zh).setOther (o' := 0) (.slice k0.a k0.len k0.cap) hne2))
  have An : Hid (RowIs W1 w.heap.size #[.slice e.h0.a e.h0.len e.h0.cap, .slice e.h1.a e.h1.len e.h1.cap, .slice e.h2.a e.h2.len e.h2.cap] 26) := hide (by rw [hW]; exact ((unhide Ah).setOther (o' := 0) (.slice k0.a k0.len k0.cap) hne1))
  have Bn : Hid (Below w.heap.size w W1) := hide (by rw [hW]; exact (bSt (unhide Bh) (b := w.heap.size + 1 + 1) (by omega) 0 (.slice k0.a k0.len k0.cap)))
  have Gn : Hid (w.heap.size + 3 ≤ W1.heap.size) := hide (by rw [hW]; simp only [size_sc]; exact unhide Gh)
  replace K0 := hide (show SqRole W1 (w.heap.size + 3) k0 e.t.f0 by rw [hW]; exact (unhide K0).fr ((Fr.below (Below.refl _ v0) _).sets (.slice k0.a k0.len k0.cap) (by omega)))
  have HW := hide hW.symm
  clear hW Oh Zh Ah Bh Gh
  have Oh := On
  clear On
  have Zh := Zn
  clear Zn
  have Ah := An
  clear An
  have Bh := Bn
  clear Bn
  have Gh := Gn
  clear Gn
  go_wp2_with fail
  rw [unhide HW]
  clear HW k_0 g_0 a_1
  refine (unhide q1 _ ((unhide M1).keep (unhide Bh))).mono ?_
  rintro r v1 ⟨⟨k1, rfl, hk1⟩, hb1⟩
  have K1 := hide (hk1.lo (unhide Gh))
  clear hk1
  have Gn : Hid (w.heap.size + 3 ≤ v1.heap.size) := hide (Nat.le_trans (unhide Gh) hb1.size)
  clear Gh
  have Gh := Gn
  clear Gn
  replace Oh := hide ((unhide Oh).keep hb1)
  replace Zh := hide ((unhide Zh).keep hb1)
  replace Ah := hide ((unhide Ah).keep hb1)
  replace Bh := hide (bTr (unhide Bh) hb1)
  replace K0 := hide ((unhide K0).keep hb1)
  clear hb1
  have k_1 := (unhide Oh).at (o := 1) (v := .slice none 0 0) rfl
  have g_1 := (unhide Oh).froz 1
  have a_2 := (unhide Ah).at (o := 2) (v := .slice e.h2.a e.h2.len e.h2.cap) rfl
  obtain ⟨W2, hW⟩ : ∃ W, W = (v1.setCell ⟨w.heap.size + 1 + 1, 1, none⟩ (.slice k1.a k1.len k1.cap)) := ⟨_, rfl⟩
  have On : Hid (RowIs W2 (w.heap.size + 1 + 1) #[.slice k0.a k0.len k0.cap, .slice k1.a k1.len k1.cap, .slice none 0 0] 32) := hide (by have h := ((unhide Oh).set 1 (.slice k1.a k1.len k1.cap)); simp only [List.setIfInBounds_toArray, List.set_cons_zero, List.set_cons_succ] at h; rw [hW]; exact h)
  have Zn : Hid (RowIs W2 (w.heap.size + 1) #[.slice none 0 0, .slice none 0 0, .slice none 0 0] 32) := hide (by rw [hW]; exact ((unhide Zh).setOther (o' := 1) (.slice k1.a k1.len k1.cap) hne2))
  have An : Hid (RowIs W2 w.heap.size #[.slice e.h0.a e.h0.len e.h0.cap, .slice e.h1.a e.h1.len e.h1.cap, .slice e.h2.a e.h2.len e.h2.cap] 26) := hide (by rw [hW]; exact ((unhide Ah).setOther (o' := 1) (.slice k1.a k1.len k1.cap) hne1))
  have Bn : Hid (Below w.heap.size w W2) := hide (by rw [hW]; exact (bSt (unhide Bh) (b := w.heap.size + 1 + 1) (by omega) 1 (.slice k1.a k1.len k1.cap)))
  have Gn : Hid (w.heap.size + 3 ≤ W2.heap.size) := hide (by rw [hW]; simp only [size_sc]; exact unhide Gh)
  replace K0 := hide (show SqRole W2 (w.heap.size + 3) k0 e.t.f0 by rw [hW]; exact (unhide K0).fr ((Fr.below (Below.refl _ v1) _).sets (.slice k1.a k1.len k1.cap) (by omega)))
  replace K1 := hide (show SqApart W2 (w.heap.size + 3) k1 e.t.f1 by rw [hW]; exact (unhide K1).fr ((Fr.below (Below.refl _ v1) _).sets (.slice k1.a k1.len k1.cap) (by omega)))
  have HW := hide hW.symm
  clear hW Oh Zh Ah Bh Gh
  have Oh := On
  clear On
  have Zh := Zn
  clear Zn
  have Ah := An
  clear An
  have Bh := Bn
  clear Bn
  have Gh := Gn
  clear Gn
  go_wp2_with fail
  rw [unhide HW]
  clear HW k_1 g_1 a_2
  refine (unhide q2 _ ((unhide M2).keep (unhide Bh))).mono ?_
  rintro r v2 ⟨⟨k2, rfl, hk2⟩, hb1⟩
  have K2 := hide (hk2.lo (unhide Gh))
  clear hk2
  have Gn : Hid (w.heap.size + 3 ≤ v2.heap.size) := hide (Nat.le_trans (unhide Gh) hb1.size)
  clear Gh
  have Gh := Gn
  clear Gn
  replace Oh := hide ((unhide Oh).keep hb1)
  replace Zh := hide ((unhide Zh).keep hb1)
  replace Ah := hide ((unhide Ah).keep hb1)
  replace Bh := hide (bTr (unhide Bh) hb1)
  replace K0 := hide ((unhide K0).keep hb1)
  replace K1 := hide ((unhide K1).keep hb1)
  clear hb1
  have k_2 := (unhide Oh).at (o := 2) (v := .slice none 0 0) rfl
  have g_2 := (unhide Oh).froz 2
  obtain ⟨W3, hW⟩ : ∃ W, W = (v2.setCell ⟨w.heap.size + 1 + 1, 2, none⟩ (.slice k2.a k2.len k2.cap)) := ⟨_, rfl⟩
  have On : Hid (RowIs W3 (w.heap.size + 1 + 1) #[.slice k0.a k0.len k0.cap, .slice k1.a k1.len k1.cap, .slice k2.a k2.len k2.cap] 32) := hide (by have h := ((unhide Oh).set 2 (.slice k2.a k2.len k2.cap)); simp only [List.setIfInBounds_toArray, List.set_cons_zero, List.set_cons_succ] at h; rw [hW]; exact h)
  have Zn : Hid (RowIs W3 (w.heap.size + 1) #[.slice none 0 0, .slice none 0 0, .slice none 0 0] 32) := hide (by rw [hW]; exact ((unhide Zh).setOther (o' := 2) (.slice k2.a k2.len k2.cap) hne2))
  have An : Hid (RowIs W3 w.heap.size #[.slice e.h0.a e.h0.len e.h0.cap, .slice e.h1.a e.h1.len e.h1.cap, .slice e.h2.a e.h2.len e.h2.cap] 26) := hide (by rw [hW]; exact ((unhide Ah).setOther (o' := 2) (.slice k2.a k2.len k2.cap) hne1))
  have Bn : Hid (Below w.heap.size w W3) := hide (by rw [hW]; exact (bSt (unhide Bh) (b := w.heap.size + 1 + 1) (by omega) 2 (.slice k2.a k2.len k2.cap)))
  have Gn : Hid (w.heap.size + 3 ≤ W3.heap.size) := hide (by rw [hW]; simp only [size_sc]; exact unhide Gh)
  replace K0 := hide (show SqRole W3 (w.heap.size + 3) k0 e.t.f0 by rw [hW]; exact (unhide K0).fr ((Fr.below (Below.refl _ v2) _).sets (.slice k2.a k2.len k2.cap) (by omega)))
  replace K1 := hide (show SqApart W3 (w.heap.size + 3) k1 e.t.f1 by rw [hW]; exact (unhide K1).fr ((Fr.below (Below.refl _ v2) _).sets (.slice k2.a k2.len k2.cap) (by omega)))
  replace K2 := hide (show SqS W3 (w.heap.size + 3) k2 e.t.f2 by rw [hW]; exact (unhide K2).fr ((Fr.below (Below.refl _ v2) _).sets (.slice k2.a k2.len k2.cap) (by omega)))
  have HW := hide hW.symm
  clear hW Oh Zh Ah Bh Gh
  have Oh := On
  clear On
  have Zh := Zn
  clear Zn
  have Ah := An
  clear An
  have Bh := Bn
  clear Bn
  have Gh := Gn
  clear Gn
  go_upto_region 5 with fail
  rw [unhide HW]
  clear HW k_2 g_2
  go_step
  refine wpList_load_row rfl 32 _ rfl (w.heap.size + 1 + 1) rfl 32 _ (0, 0) _ (unhide Oh) Try.underlying32 rfl (by kernel_rfl) ?_
  refine wpList_store_row rfl 32 _ _ rfl (w.heap.size + 1) #[.slice k0.a k0.len k0.cap, .slice k1.a k1.len k1.cap, .slice k2.a k2.len k2.cap] rfl rfl 32 _ (unhide Zh) (by kernel_rfl) rfl (by simp [Value.oneCell']) ?_
  have Z6 := hide (setRow_heap W3 (w.heap.size + 1) _ #[.slice k0.a k0.len k0.cap, .slice k1.a k1.len k1.cap, .slice k2.a k2.len k2.cap] _ _ (unhide Zh))
  go_wp2_with fail
  refine bodyPost_ret (v := .agg #[.slice k0.a k0.len k0.cap, .slice k1.a k1.len k1.cap, .slice k2.a k2.len k2.cap]) (results_cell_row rfl _ _ (w.heap.size + 1) 32 _ (0, 0) _ rfl (unhide Z6) Try.underlying32 rfl (by kernel_rfl)) rfl ⟨⟨⟨e.t, k0, k1, k2⟩, rfl, rfl, ⟨((unhide K0).fr ((Fr.below (Below.refl _ _) _).row _ (by omega))).lo (by omega), ((unhide K1).fr ((Fr.below (Below.refl _ _) _).row _ (by omega))).lo (by omega), ((unhide K2).fr ((Fr.below (Below.refl _ _) _).row _ (by omega))).lo (by omega), trivial⟩⟩, bRow (unhide Bh) (by omega) _⟩

set_option maxRecDepth 20000 in
set_option maxHeartbeats 2000000 in
theorem eqRoleSet_n (e1 e2 : RoleSetE) (w : World) (ht : e2.t = e1.t) (hn : RoleSetN e1.t) (m1 : RoleSetM w 0 e1) (m2 : RoleSetM w 0 e2) :
    Calls Try.prog 8 #[.agg #[.slice e1.h0.a e1.h0.len e1.h0.cap, .slice e1.h1.a e1.h1.len e1.h1.cap, .slice e1.h2.a e1.h2.len e1.h2.cap], .agg #[.slice e2.h0.a e2.h0.len e2.h0.cap, .slice e2.h1.a e2.h1.len e2.h1.cap, .slice e2.h2.a e2.h2.len e2.h2.cap]] w fun r w' => r = .returned (.bool true) ∧ Below w.heap.size w w' := by
  obtain ⟨t, h0, h1, h2⟩ := e1
  obtain ⟨t', g0, g1, g2⟩ := e2
  simp only at ht
  subst ht
  have q0 := hide (fun w u1 u2 => eqRoleS_n h0 g0 t'.f0 w hn.l0 hn.o0 u1 u2)
  have M0 := hide m1.m0
  have P0 := hide m2.m0
  have q1 := hide (fun w u1 u2 => eqApartS_n h1 g1 t'.f1 w hn.l1 hn.o1 u1 u2)
  have M1 := hide m1.m1
  have P1 := hide m2.m1
  have q2 := hide (fun w u1 u2 => eqStringS_n h2 g2 t'.f2 w hn.l2 u1 u2)
  have M2 := hide m1.m2
  have P2 := hide m2.m2
  have X := hide ((RowIs.new w #[.slice h0.a h0.len h0.cap, .slice h1.a h1.len h1.cap, .slice h2.a h2.len h2.cap] 32).keep (bAl (Below.refl _ _) (.cells #[.slice g0.a g0.len g0.cap, .slice g1.a g1.len g1.cap, .slice g2.a g2.len g2.cap] 32)))
  have Y : Hid (RowIs ((w.alloc (.cells #[.slice h0.a h0.len h0.cap, .slice h1.a h1.len h1.cap, .slice h2.a h2.len h2.cap] 32)).alloc (.cells #[.slice g0.a g0.len g0.cap, .slice g1.a g1.len g1.cap, .slice g2.a g2.len g2.cap] 32)) (w.heap.size + 1) #[.slice g0.a g0.len g0.cap, .slice g1.a g1.len g1.cap, .slice g2.a g2.len g2.cap] 32) := hide (by have := RowIs.new (w.alloc (.cells #[.slice h0.a h0.len h0.cap, .slice h1.a h1.len h1.cap, .slice h2.a h2.len h2.cap] 32)) #[.slice g0.a g0.len g0.cap, .slice g1.a g1.len g1.cap, .slice g2.a g2.len g2.cap] 32; simpa using this)
  have B := hide (bAl (bAl (Below.refl w.heap.size w) (.cells #[.slice h0.a h0.len h0.cap, .slice h1.a h1.len h1.cap, .slice h2.a h2.len h2.cap] 32)) (.cells #[.slice g0.a g0.len g0.cap, .slice g1.a g1.len g1.cap, .slice g2.a g2.len g2.cap] 32))
  clear m1 m2 hn
  go_enter Try.func8, Try.ntmps8
  go_wp2_with fail
  refine (unhide q0 _ ((unhide M0).keep (unhide B)) ((unhide P0).keep (unhide B))).mono ?_
  rintro r w1 ⟨rfl, hb1⟩
  replace X := hide ((unhide X).keep hb1)
  replace Y := hide ((unhide Y).keep hb1)
  replace B := hide (bTr (unhide B) hb1)
  clear hb1 
  have c1 := (unhide X).at (o := 1) (v := .slice h1.a h1.len h1.cap) rfl
  have d1 := (unhide Y).at (o := 1) (v := .slice g1.a g1.len g1.cap) rfl
  go_wp2_with fail
  refine (unhide q1 _ ((unhide M1).keep (unhide B)) ((unhide P1).keep (unhide B))).mono ?_
  rintro r w2 ⟨rfl, hb1⟩
  replace X := hide ((unhide X).keep hb1)
  replace Y := hide ((unhide Y).keep hb1)
  replace B := hide (bTr (unhide B) hb1)
  clear hb1 c1 d1
  have c2 := (unhide X).at (o := 2) (v := .slice h2.a h2.len h2.cap) rfl
  have d2 := (unhide Y).at (o := 2) (v := .slice g2.a g2.len g2.cap) rfl
  go_wp2_with fail
  refine (unhide q2 _ ((unhide M2).keep (unhide B)) ((unhide P2).keep (unhide B))).mono ?_
  rintro r w3 ⟨rfl, hb1⟩
  replace X := hide ((unhide X).keep hb1)
  replace Y := hide ((unhide Y).keep hb1)
  replace B := hide (bTr (unhide B) hb1)
  clear hb1 c2 d2
  go_wp2_with fail
  go_ret
  exact ⟨rfl, unhide B⟩

theorem listcRoleSet {α : Type} {l : List α} (h : l.length = 3) : ∃ a0 a1 a2, l = [a0, a1, a2] := by
  match l, h with
  | [a0, a1, a2], _ => exact ⟨a0, a1, a2, rfl⟩
theorem listfRoleSet {α : Type} {l : List α} (h : l.length = 3) : ∃ a0 a1 a2, l = [a0, a1, a2] := by
  match l, h with
  | [a0, a1, a2], _ => exact ⟨a0, a1, a2, rfl⟩
section
variable {H : Type} {enc : TypeId × Value → H} {w : World} {base : Nat} {sp : Nat → Bool} {held : Bool}
set_option maxRecDepth 100000 in
theorem read_RoleSet {n : Nat} {cs : List Value} {x : DataW H × List MemPlace} (h : DataW.trod enc Try.prog w base sp held n 26 cs = some x) : ∃ e : RoleSetE, cs = [.slice e.h0.a e.h0.len e.h0.cap, .slice e.h1.a e.h1.len e.h1.cap, .slice e.h2.a e.h2.len e.h2.cap] ∧ RoleSetN e.t ∧ RoleSetM w 0 e := by
  obtain ⟨xs, m, rfl, _, hlen, hx, hf⟩ := DataW.trod_struct Try.underlying26 h
  have hc : Try.prog.cellsOf 26 = 3 := by kernel_rfl
  have ky0 : Try.prog.cellsOf 23 = 1 := by kernel_rfl
  have ky1 : Try.prog.cellsOf 22 = 1 := by kernel_rfl
  have ky2 : Try.prog.cellsOf 24 = 1 := by kernel_rfl
  obtain ⟨c0, c1, c2, rfl⟩ := listcRoleSet (hlen.trans hc)
  obtain ⟨x0, x1, x2, rfl⟩ := listfRoleSet hx
  have h0 : DataW.trod enc Try.prog w base sp held m 22 [c0] = some x0 := by have := hf 0 _ rfl; simpa [ky0, ky1, ky2] using this
  have g0 : ∃ a l c, c0 = .slice a l c := by
    rcases Go.Deep.open_slice Try.underlying22 h0 with ⟨hcs, _⟩ | ⟨a', len', cap', _, _, _, _, hcs, _⟩
    · simp at hcs; exact ⟨_, _, _, hcs⟩
    · simp at hcs; exact ⟨_, _, _, hcs⟩
  obtain ⟨a0, b0, d0, rfl⟩ := g0
  obtain ⟨y0, s0, ok0, ml0⟩ := readsRole h0
  have h1 : DataW.trod enc Try.prog w base sp held m 23 [c1] = some x1 := by have := hf 1 _ rfl; simpa [ky0, ky1, ky2] using this
  have g1 : ∃ a l c, c1 = .slice a l c := by
    rcases Go.Deep.open_slice Try.underlying23 h1 with ⟨hcs, _⟩ | ⟨a', len', cap', _, _, _, _, hcs, _⟩
    · simp at hcs; exact ⟨_, _, _, hcs⟩
    · simp at hcs; exact ⟨_, _, _, hcs⟩
  obtain ⟨a1, b1, d1, rfl⟩ := g1
  obtain ⟨y1, s1, ok1, ml1⟩ := readsApart h1
  have h2 : DataW.trod enc Try.prog w base sp held m 24 [c2] = some x2 := by have := hf 2 _ rfl; simpa [ky0, ky1, ky2] using this
  have g2 : ∃ a l c, c2 = .slice a l c := by
    rcases Go.Deep.open_slice Try.underlying24 h2 with ⟨hcs, _⟩ | ⟨a', len', cap', _, _, _, _, hcs, _⟩
    · simp at hcs; exact ⟨_, _, _, hcs⟩
    · simp at hcs; exact ⟨_, _, _, hcs⟩
  obtain ⟨a2, b2, d2, rfl⟩ := g2
  obtain ⟨y2, s2, ok2, ml2⟩ := readsS h2
  exact ⟨⟨⟨y0, y1, y2⟩, ⟨a0, b0, d0⟩, ⟨a1, b1, d1⟩, ⟨a2, b2, d2⟩⟩, rfl, ⟨ok0, ml0, ok1, ml1, ok2, ml2, trivial⟩, ⟨s0, s1, s2, trivial⟩⟩
set_option maxRecDepth 100000 in
theorem came_RoleSet {r : Reach} {b0 : Nat} {v0 : Value} {d : DataW H} {q : List MemPlace} (hv : Value.okWide Try.prog w r b0 26 v0) (h : DataW.Trod enc Try.prog w base sp held 26 v0 d q) : ∃ e : RoleSetE, v0 = .agg #[.slice e.h0.a e.h0.len e.h0.cap, .slice e.h1.a e.h1.len e.h1.cap, .slice e.h2.a e.h2.len e.h2.cap] ∧ RoleSetN e.t ∧ RoleSetM w 0 e := by
  obtain ⟨cs, rfl, _⟩ := okWide_struct Try.underlying26 hv
  obtain ⟨fuel, hf0⟩ := h
  obtain ⟨e, h1, h2, h3⟩ := read_RoleSet hf0
  refine ⟨e, ?_, h2, h3⟩
  obtain ⟨l⟩ := cs
  simp only [Value.cells] at h1
  rw [h1]
end
end Go.Proofs.Ytfabfgokammmhaa.V
