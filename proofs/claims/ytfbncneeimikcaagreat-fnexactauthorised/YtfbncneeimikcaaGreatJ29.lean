/- OSt, OCn, one behind the other. -/
import Derived.Test.YtfbncneeimikcaaGreatJ27
import Derived.Test.YtfbncneeimikcaaGreatJ28
import Derived.Test.YtfbncneeimikcaaGreatJ17
/- impl.RoleState in memory, by what it holds: sized, copied, held against itself, read. -/
namespace Go.Proofs.YtfbncneeimikcaaGreat.V
set_option linter.unusedSimpArgs false
open Go.ChangeShapes Go.WideShapes Go.RowKit

structure RoleStateT where
  f0 : List Int
  f1 : List RoleGrantT
  f2 : List RoleSessionT
  f3 : Int
structure RoleStateE where
  t : RoleStateT
  h0 : Hd
  h1 : Hd
  h2 : Hd
structure RoleStateN (x : RoleStateT) : Prop where
  o0 : ∀ q ∈ x.f0, q = q
  l0 : x.f0.length ≤ maxLen
  o1 : ∀ q ∈ x.f1, RoleGrantN q
  l1 : x.f1.length ≤ maxLen
  o2 : ∀ q ∈ x.f2, RoleSessionN q
  l2 : x.f2.length ≤ maxLen
  tt : True
structure RoleStateSm (x : RoleStateT) : Prop where
  l0 : x.f0.length ≤ 1048576
  l1 : x.f1.length ≤ 1048576
  o1 : ∀ q ∈ x.f1, RoleGrantSm q
  l2 : x.f2.length ≤ 1048576
  o2 : ∀ q ∈ x.f2, RoleSessionSm q
  tt : True
structure RoleStateM (w : World) (lo : Nat) (e : RoleStateE) : Prop where
  m0 : SqI w lo e.h0 e.t.f0
  m1 : SqRoleGrant w lo e.h1 e.t.f1
  m2 : SqRoleSession w lo e.h2 e.t.f2
  tt : True
theorem RoleStateM.fr {w w1 : World} {lo : Nat} {e : RoleStateE} (h : RoleStateM w lo e) (hf : Fr lo w w1) : RoleStateM w1 lo e := ⟨h.m0.fr hf, h.m1.fr hf, h.m2.fr hf, h.tt⟩
theorem RoleStateM.lo {w : World} {lo lo' : Nat} {e : RoleStateE} (h : RoleStateM w lo e) (hl : lo' ≤ lo) : RoleStateM w lo' e := ⟨h.m0.lo hl, h.m1.lo hl, h.m2.lo hl, h.tt⟩
theorem RoleStateM.keep {w w1 : World} {lo : Nat} {e : RoleStateE} (h : RoleStateM w lo e) (hb : Below w.heap.size w w1) : RoleStateM w1 lo e := h.fr (Fr.below hb lo)
set_option maxRecDepth 20000 in
set_option maxHeartbeats 2000000 in
theorem szRoleState_n (e : RoleStateE) (left : Int) (w : World) (h0 : 0 ≤ left) (h1 : left ≤ 1048576) (ho : RoleStateN e.t) (hm : RoleStateM w 0 e) :
    Calls Tryz.prog 5 #[.agg #[.slice e.h0.a e.h0.len e.h0.cap, .slice e.h1.a e.h1.len e.h1.cap, .slice e.h2.a e.h2.len e.h2.cap, .int .i64 e.t.f3], .int .i64 left] w fun r w' => (∃ m : Int, -1 ≤ m ∧ m ≤ left ∧ (0 ≤ m → RoleStateSm e.t) ∧ r = .returned (.int .i64 m)) ∧ Below w.heap.size w w' := by
  have q0 := hide (fun l w h0 h1 hs => szIntS_n e.h0 e.t.f0 l w h0 h1 ho.o0 ho.l0 hs)
  have M0 := hide hm.m0
  have q1 := hide (fun l w h0 h1 hs => szRoleGrantS_n e.h1 e.t.f1 l w h0 h1 ho.o1 ho.l1 hs)
  have M1 := hide hm.m1
  have q2 := hide (fun l w h0 h1 hs => szRoleSessionS_n e.h2 e.t.f2 l w h0 h1 ho.o2 ho.l2 hs)
  have M2 := hide hm.m2
  have R := hide (RowIs.new w #[.slice e.h0.a e.h0.len e.h0.cap, .slice e.h1.a e.h1.len e.h1.cap, .slice e.h2.a e.h2.len e.h2.cap, .int .i64 e.t.f3] 31)
  have B := hide (bAl (Below.refl w.heap.size w) (.cells #[.slice e.h0.a e.h0.len e.h0.cap, .slice e.h1.a e.h1.len e.h1.cap, .slice e.h2.a e.h2.len e.h2.cap, .int .i64 e.t.f3] 31))
  clear ho hm
  go_enter Tryz.func5, Tryz.ntmps5
  go_wp2_with fail
  refine (unhide q0 _ _ (by omega) (by omega) ((unhide M0).keep (unhide B))).mono ?_
  rintro r w1 ⟨⟨m0, x0, y0, z0, rfl⟩, hb1⟩
  have Z0 := hide z0
  clear z0
  replace R := hide ((unhide R).keep hb1)
  replace B := hide (bTr (unhide B) hb1)
  clear hb1 
  by_cases e0 : m0 < 0
  · go_wp2_with fail
    go_ret
    exact ⟨⟨-1, by omega, by omega, by omega, rfl⟩, unhide B⟩
  have c1 := (unhide R).at (o := 1) (v := .slice e.h1.a e.h1.len e.h1.cap) rfl
  go_wp2_with fail
  refine (unhide q1 _ _ (by omega) (by omega) ((unhide M1).keep (unhide B))).mono ?_
  rintro r w2 ⟨⟨m1, x1, y1, z1, rfl⟩, hb1⟩
  have Z1 := hide z1
  clear z1
  replace R := hide ((unhide R).keep hb1)
  replace B := hide (bTr (unhide B) hb1)
  clear hb1 c1
  by_cases e1 : m1 < 0
  · go_wp2_with fail
    go_ret
    exact ⟨⟨-1, by omega, by omega, by omega, rfl⟩, unhide B⟩
  have c2 := (unhide R).at (o := 2) (v := .slice e.h2.a e.h2.len e.h2.cap) rfl
  go_wp2_with fail
  refine (unhide q2 _ _ (by omega) (by omega) ((unhide M2).keep (unhide B))).mono ?_
  rintro r w3 ⟨⟨m2, x2, y2, z2, rfl⟩, hb1⟩
  have Z2 := hide z2
  clear z2
  replace R := hide ((unhide R).keep hb1)
  replace B := hide (bTr (unhide B) hb1)
  clear hb1 c2
  by_cases e2 : m2 < 0
  · go_wp2_with fail
    go_ret
    exact ⟨⟨-1, by omega, by omega, by omega, rfl⟩, unhide B⟩
  go_wp2_with fail
  go_ret
  exact ⟨⟨_, by omega, by omega, fun _ => ⟨unhide Z0 (by omega), (unhide Z1 (by omega)).1, (unhide Z1 (by omega)).2, (unhide Z2 (by omega)).1, (unhide Z2 (by omega)).2, trivial⟩, rfl⟩, unhide B⟩

set_option maxRecDepth 40000 in
set_option maxHeartbeats 8000000 in
theorem toRoleState_n (e : RoleStateE) (w : World) (hs : RoleStateSm e.t) (hm : RoleStateM w 0 e) :
    Calls Tryz.prog 8 #[.agg #[.slice e.h0.a e.h0.len e.h0.cap, .slice e.h1.a e.h1.len e.h1.cap, .slice e.h2.a e.h2.len e.h2.cap, .int .i64 e.t.f3]] w fun r w' => (∃ e' : RoleStateE, e'.t = e.t ∧ r = .returned (.agg #[.slice e'.h0.a e'.h0.len e'.h0.cap, .slice e'.h1.a e'.h1.len e'.h1.cap, .slice e'.h2.a e'.h2.len e'.h2.cap, .int .i64 e'.t.f3]) ∧ RoleStateM w' w.heap.size e') ∧ Below w.heap.size w w' := by
  have q0 := hide (fun w hm => toIntS_n e.h0 e.t.f0 w hs.l0 hm)
  have M0 := hide hm.m0
  have q1 := hide (fun w hm => toRoleGrantS_n e.h1 e.t.f1 w ⟨hs.l1, hs.o1⟩ hm)
  have M1 := hide hm.m1
  have q2 := hide (fun w hm => toRoleSessionS_n e.h2 e.t.f2 w ⟨hs.l2, hs.o2⟩ hm)
  have M2 := hide hm.m2
  clear hs hm
  obtain ⟨W0, hW0⟩ : ∃ W, W = ((w.alloc (.cells #[.slice e.h0.a e.h0.len e.h0.cap, .slice e.h1.a e.h1.len e.h1.cap, .slice e.h2.a e.h2.len e.h2.cap, .int .i64 e.t.f3] 31)).alloc (.cells #[.slice none 0 0, .slice none 0 0, .slice none 0 0, .int .i64 0] 43)).alloc (.cells #[.slice none 0 0, .slice none 0 0, .slice none 0 0, .int .i64 0] 43) := ⟨_, rfl⟩
  have z0 : W0.heap.size = w.heap.size + 1 + 1 + 1 := by rw [hW0]; simp
  have b0 : Below w.heap.size w W0 := by rw [hW0]; exact bAl (bAl (bAl (Below.refl _ _) _) _) _
  have A0 : RowIs W0 w.heap.size #[.slice e.h0.a e.h0.len e.h0.cap, .slice e.h1.a e.h1.len e.h1.cap, .slice e.h2.a e.h2.len e.h2.cap, .int .i64 e.t.f3] 31 := by rw [hW0]; exact ((RowIs.new w _ _).keep (bAl (Below.refl _ _) _)).keep (bAl (Below.refl _ _) _)
  have Z0 : RowIs W0 (w.heap.size + 1) #[.slice none 0 0, .slice none 0 0, .slice none 0 0, .int .i64 0] 43 := by
    rw [hW0]
    have := (RowIs.new (w.alloc (.cells #[.slice e.h0.a e.h0.len e.h0.cap, .slice e.h1.a e.h1.len e.h1.cap, .slice e.h2.a e.h2.len e.h2.cap, .int .i64 e.t.f3] 31)) #[.slice none 0 0, .slice none 0 0, .slice none 0 0, .int .i64 0] 43).keep (bAl (Below.refl _ _) (.cells #[.slice none 0 0, .slice none 0 0, .slice none 0 0, .int .i64 0] 43))
    simpa using this
  have O0 : RowIs W0 (w.heap.size + 1 + 1) #[.slice none 0 0, .slice none 0 0, .slice none 0 0, .int .i64 0] 43 := by
    rw [hW0]
    have := RowIs.new ((w.alloc (.cells #[.slice e.h0.a e.h0.len e.h0.cap, .slice e.h1.a e.h1.len e.h1.cap, .slice e.h2.a e.h2.len e.h2.cap, .int .i64 e.t.f3] 31)).alloc (.cells #[.slice none 0 0, .slice none 0 0, .slice none 0 0, .int .i64 0] 43)) #[.slice none 0 0, .slice none 0 0, .slice none 0 0, .int .i64 0] 43
    simpa using this
  have HW := hide hW0
  have hne1 : w.heap.size ≠ w.heap.size + 1 + 1 := by omega
  have hne2 : w.heap.size + 1 ≠ w.heap.size + 1 + 1 := by omega
  clear hW0
  go_enter Tryz.func8, Tryz.ntmps8
  go_wp2_with fail
  rw [← unhide HW]
  clear HW
  have Oh := hide O0
  clear O0
  have Zh := hide Z0
  clear Z0
  have Ah := hide A0
  clear A0
  have Bh := hide b0
  have Gh : Hid (w.heap.size + 3 ≤ W0.heap.size) := hide (by omega)
  clear b0 z0
  refine (unhide q0 _ ((unhide M0).keep (unhide Bh))).mono ?_
  rintro r v0 ⟨⟨k0, rfl, hk0⟩, hb1⟩
  have K0 := hide (hk0.lo (unhide Gh))
  clear hk0
  have Gn : Hid (w.heap.size + 3 ≤ v0.heap.size) := hide (Nat.le_trans (unhide Gh) hb1.size)
  clear Gh
  have Gh := Gn
  clear Gn
  replace Oh := hide ((unhide Oh).keep hb1)
  replace Zh := hide ((unhide Zh).keep hb1)
  replace Ah := hide ((unhide Ah).keep hb1)
  replace Bh := hide (bTr (unhide Bh) hb1)
  clear hb1
  have k_0 := (unhide Oh).at (o := 0) (v := .slice none 0 0) rfl
  have g_0 := (unhide Oh).froz 0
  have a_1 := (unhide Ah).at (o := 1) (v := .slice e.h1.a e.h1.len e.h1.cap) rfl
  obtain ⟨W1, hW⟩ : ∃ W, W = (v0.setCell ⟨w.heap.size + 1 + 1, 0, none⟩ (.slice k0.a k0.len k0.cap)) := ⟨_, rfl⟩
  have On : Hid (RowIs W1 (w.heap.size + 1 + 1) #[.slice k0.a k0.len k0.cap, .slice none 0 0, .slice none 0 0, .int .i64 0] 43) := hide (by have h := ((unhide Oh).set 0 (.slice k0.a k0.len k0.cap)); simp only [List.setIfInBounds_toArray, List.set_cons_zero, List.set_cons_succ] at h; rw [hW]; exact h)
  have Zn : Hid (RowIs W1 (w.heap.size + 1) #[.slice none 0 0, .slice none 0 0, .slice none 0 0, .int .i64 0] 43) := hide (by rw [hW]; exact ((unhide Zh).setOther (o' := 0) (.slice k0.a k0.len k0.cap) hne2))
  have An : Hid (RowIs W1 w.heap.size #[.slice e.h0.a e.h0.len e.h0.cap, .slice e.h1.a e.h1.len e.h1.cap, .slice e.h2.a e.h2.len e.h2.cap, .int .i64 e.t.f3] 31) := hide (by rw [hW]; exact ((unhide Ah).setOther (o' := 0) (.slice k0.a k0.len k0.cap) hne1))
  have Bn : Hid (Below w.heap.size w W1) := hide (by rw [hW]; exact (bSt (unhide Bh) (b := w.heap.size + 1 + 1) (by omega) 0 (.slice k0.a k0.len k0.cap)))
  have Gn : Hid (w.heap.size + 3 ≤ W1.heap.size) := hide (by rw [hW]; simp only [size_sc]; exact unhide Gh)
  replace K0 := hide (show SqI W1 (w.heap.size + 3) k0 e.t.f0 by rw [hW]; exact (unhide K0).fr ((Fr.below (Below.refl _ v0) _).sets (.slice k0.a k0.len k0.cap) (by omega)))
  have HW := hide hW.symm
  clear hW Oh Zh Ah Bh Gh
  have Oh := On
  clear On
  have Zh := Zn
  clear Zn
  have Ah := An
  clear An
  have Bh := Bn
  clear Bn
  have Gh := Gn
  clear Gn
  go_wp2_with fail
  rw [unhide HW]
  clear HW k_0 g_0 a_1
  refine (unhide q1 _ ((unhide M1).keep (unhide Bh))).mono ?_
  rintro r v1 ⟨⟨k1, rfl, hk1⟩, hb1⟩
  have K1 := hide (hk1.lo (unhide Gh))
  clear hk1
  have Gn : Hid (w.heap.size + 3 ≤ v1.heap.size) := hide (Nat.le_trans (unhide Gh) hb1.size)
  clear Gh
  have Gh := Gn
  clear Gn
  replace Oh := hide ((unhide Oh).keep hb1)
  replace Zh := hide ((unhide Zh).keep hb1)
  replace Ah := hide ((unhide Ah).keep hb1)
  replace Bh := hide (bTr (unhide Bh) hb1)
  replace K0 := hide ((unhide K0).keep hb1)
  clear hb1
  have k_1 := (unhide Oh).at (o := 1) (v := .slice none 0 0) rfl
  have g_1 := (unhide Oh).froz 1
  have a_2 := (unhide Ah).at (o := 2) (v := .slice e.h2.a e.h2.len e.h2.cap) rfl
  obtain ⟨W2, hW⟩ : ∃ W, W = (v1.setCell ⟨w.heap.size + 1 + 1, 1, none⟩ (.slice k1.a k1.len k1.cap)) := ⟨_, rfl⟩
  have On : Hid (RowIs W2 (w.heap.size + 1 + 1) #[.slice k0.a k0.len k0.cap, .slice k1.a k1.len k1.cap, .slice none 0 0, .int .i64 0] 43) := hide (by have h := ((unhide Oh).set 1 (.slice k1.a k1.len k1.cap)); simp only [List.setIfInBounds_toArray, List.set_cons_zero, List.set_cons_succ] at h; rw [hW]; exact h)
  have Zn : Hid (RowIs W2 (w.heap.size + 1) #[.slice none 0 0, .slice none 0 0, .slice none 0 0, .int .i64 0] 43) := hide (by rw [hW]; exact ((unhide Zh).setOther (o' := 1) (.slice k1.a k1.len k1.cap) hne2))
  have An : Hid (RowIs W2 w.heap.size #[.slice e.h0.a e.h0.len e.h0.cap, .slice e.h1.a e.h1.len e.h1.cap, .slice e.h2.a e.h2.len e.h2.cap, .int .i64 e.t.f3] 31) := hide (by rw [hW]; exact ((unhide Ah).setOther (o' := 1) (.slice k1.a k1.len k1.cap) hne1))
  have Bn : Hid (Below w.heap.size w W2) := hide (by rw [hW]; exact (bSt (unhide Bh) (b := w.heap.size + 1 + 1) (by omega) 1 (.slice k1.a k1.len k1.cap)))
  have Gn : Hid (w.heap.size + 3 ≤ W2.heap.size) := hide (by rw [hW]; simp only [size_sc]; exact unhide Gh)
  replace K0 := hide (show SqI W2 (w.heap.size + 3) k0 e.t.f0 by rw [hW]; exact (unhide K0).fr ((Fr.below (Below.refl _ v1) _).sets (.slice k1.a k1.len k1.cap) (by omega)))
  replace K1 := hide (show SqRoleGrant W2 (w.heap.size + 3) k1 e.t.f1 by rw [hW]; exact (unhide K1).fr ((Fr.below (Below.refl _ v1) _).sets (.slice k1.a k1.len k1.cap) (by omega)))
  have HW := hide hW.symm
  clear hW Oh Zh Ah Bh Gh
  have Oh := On
  clear On
  have Zh := Zn
  clear Zn
  have Ah := An
  clear An
  have Bh := Bn
  clear Bn
  have Gh := Gn
  clear Gn
  go_wp2_with fail
  rw [unhide HW]
  clear HW k_1 g_1 a_2
  refine (unhide q2 _ ((unhide M2).keep (unhide Bh))).mono ?_
  rintro r v2 ⟨⟨k2, rfl, hk2⟩, hb1⟩
  have K2 := hide (hk2.lo (unhide Gh))
  clear hk2
  have Gn : Hid (w.heap.size + 3 ≤ v2.heap.size) := hide (Nat.le_trans (unhide Gh) hb1.size)
  clear Gh
  have Gh := Gn
  clear Gn
  replace Oh := hide ((unhide Oh).keep hb1)
  replace Zh := hide ((unhide Zh).keep hb1)
  replace Ah := hide ((unhide Ah).keep hb1)
  replace Bh := hide (bTr (unhide Bh) hb1)
  replace K0 := hide ((unhide K0).keep hb1)
  replace K1 := hide ((unhide K1).keep hb1)
  clear hb1
  have k_2 := (unhide Oh).at (o := 2) (v := .slice none 0 0) rfl
  have g_2 := (unhide Oh).froz 2
  have k_3 := (unhide Oh).at (o := 3) (v := .int .i64 0) rfl
  have g_3 := (unhide Oh).froz 3
  have zO := (unhide Oh).lt
  have zA := (unhide Ah).lt
  have a_3 := (unhide Ah).at (o := 3) (v := .int .i64 e.t.f3) rfl
  obtain ⟨W3, hW⟩ : ∃ W, W = ((v2.setCell ⟨w.heap.size + 1 + 1, 2, none⟩ (.slice k2.a k2.len k2.cap)).setCell ⟨w.heap.size + 1 + 1, 3, none⟩ (.int .i64 e.t.f3)) := ⟨_, rfl⟩
  have On : Hid (RowIs W3 (w.heap.size + 1 + 1) #[.slice k0.a k0.len k0.cap, .slice k1.a k1.len k1.cap, .slice k2.a k2.len k2.cap, .int .i64 e.t.f3] 43) := hide (by have h := (((unhide Oh).set 2 (.slice k2.a k2.len k2.cap)).set 3 (.int .i64 e.t.f3)); simp only [List.setIfInBounds_toArray, List.set_cons_zero, List.set_cons_succ] at h; rw [hW]; exact h)
  have Zn : Hid (RowIs W3 (w.heap.size + 1) #[.slice none 0 0, .slice none 0 0, .slice none 0 0, .int .i64 0] 43) := hide (by rw [hW]; exact (((unhide Zh).setOther (o' := 2) (.slice k2.a k2.len k2.cap) hne2).setOther (o' := 3) (.int .i64 e.t.f3) hne2))
  have An : Hid (RowIs W3 w.heap.size #[.slice e.h0.a e.h0.len e.h0.cap, .slice e.h1.a e.h1.len e.h1.cap, .slice e.h2.a e.h2.len e.h2.cap, .int .i64 e.t.f3] 31) := hide (by rw [hW]; exact (((unhide Ah).setOther (o' := 2) (.slice k2.a k2.len k2.cap) hne1).setOther (o' := 3) (.int .i64 e.t.f3) hne1))
  have Bn : Hid (Below w.heap.size w W3) := hide (by rw [hW]; exact (bSt (bSt (unhide Bh) (b := w.heap.size + 1 + 1) (by omega) 2 (.slice k2.a k2.len k2.cap)) (b := w.heap.size + 1 + 1) (by omega) 3 (.int .i64 e.t.f3)))
  have Gn : Hid (w.heap.size + 3 ≤ W3.heap.size) := hide (by rw [hW]; simp only [size_sc]; exact unhide Gh)
  replace K0 := hide (show SqI W3 (w.heap.size + 3) k0 e.t.f0 by rw [hW]; exact (unhide K0).fr (((Fr.below (Below.refl _ v2) _).sets (.slice k2.a k2.len k2.cap) (by omega)).sets (.int .i64 e.t.f3) (by omega)))
  replace K1 := hide (show SqRoleGrant W3 (w.heap.size + 3) k1 e.t.f1 by rw [hW]; exact (unhide K1).fr (((Fr.below (Below.refl _ v2) _).sets (.slice k2.a k2.len k2.cap) (by omega)).sets (.int .i64 e.t.f3) (by omega)))
  replace K2 := hide (show SqRoleSession W3 (w.heap.size + 3) k2 e.t.f2 by rw [hW]; exact (unhide K2).fr (((Fr.below (Below.refl _ v2) _).sets (.slice k2.a k2.len k2.cap) (by omega)).sets (.int .i64 e.t.f3) (by omega)))
  have HW := hide hW.symm
  clear hW Oh Zh Ah Bh Gh
  have Oh := On
  clear On
  have Zh := Zn
  clear Zn
  have Ah := An
  clear An
  have Bh := Bn
  clear Bn
  have Gh := Gn
  clear Gn
  go_upto_region 6 with fail
  rw [unhide HW]
  clear HW k_2 g_2 k_3 g_3 zO zA a_3
  go_step
  refine wpList_load_row rfl 43 _ rfl (w.heap.size + 1 + 1) rfl 43 _ (0, 0) _ (unhide Oh) Tryz.underlying43 rfl (by kernel_rfl) ?_
  refine wpList_store_row rfl 43 _ _ rfl (w.heap.size + 1) #[.slice k0.a k0.len k0.cap, .slice k1.a k1.len k1.cap, .slice k2.a k2.len k2.cap, .int .i64 e.t.f3] rfl rfl 43 _ (unhide Zh) (by kernel_rfl) rfl (by simp [Value.oneCell']) ?_
  have Z6 := hide (setRow_heap W3 (w.heap.size + 1) _ #[.slice k0.a k0.len k0.cap, .slice k1.a k1.len k1.cap, .slice k2.a k2.len k2.cap, .int .i64 e.t.f3] _ _ (unhide Zh))
  go_wp2_with fail
  refine bodyPost_ret (v := .agg #[.slice k0.a k0.len k0.cap, .slice k1.a k1.len k1.cap, .slice k2.a k2.len k2.cap, .int .i64 e.t.f3]) (results_cell_row rfl _ _ (w.heap.size + 1) 43 _ (0, 0) _ rfl (unhide Z6) Tryz.underlying43 rfl (by kernel_rfl)) rfl ⟨⟨⟨e.t, k0, k1, k2⟩, rfl, rfl, ⟨((unhide K0).fr ((Fr.below (Below.refl _ _) _).row _ (by omega))).lo (by omega), ((unhide K1).fr ((Fr.below (Below.refl _ _) _).row _ (by omega))).lo (by omega), ((unhide K2).fr ((Fr.below (Below.refl _ _) _).row _ (by omega))).lo (by omega), trivial⟩⟩, bRow (unhide Bh) (by omega) _⟩

set_option maxRecDepth 20000 in
set_option maxHeartbeats 2000000 in
theorem eqRoleState_n (e1 e2 : RoleStateE) (w : World) (ht : e2.t = e1.t) (hn : RoleStateN e1.t) (m1 : RoleStateM w 0 e1) (m2 : RoleStateM w 0 e2) :
    Calls Tryz.prog 12 #[.agg #[.slice e1.h0.a e1.h0.len e1.h0.cap, .slice e1.h1.a e1.h1.len e1.h1.cap, .slice e1.h2.a e1.h2.len e1.h2.cap, .int .i64 e1.t.f3], .agg #[.slice e2.h0.a e2.h0.len e2.h0.cap, .slice e2.h1.a e2.h1.len e2.h1.cap, .slice e2.h2.a e2.h2.len e2.h2.cap, .int .i64 e2.t.f3]] w fun r w' => r = .returned (.bool true) ∧ Below w.heap.size w w' := by
  obtain ⟨t, h0, h1, h2⟩ := e1
  obtain ⟨t', g0, g1, g2⟩ := e2
  simp only at ht
  subst ht
  have q0 := hide (fun w u1 u2 => eqIntS_n h0 g0 t'.f0 w hn.l0 u1 u2)
  have M0 := hide m1.m0
  have P0 := hide m2.m0
  have q1 := hide (fun w u1 u2 => eqRoleGrantS_n h1 g1 t'.f1 w hn.l1 hn.o1 u1 u2)
  have M1 := hide m1.m1
  have P1 := hide m2.m1
  have q2 := hide (fun w u1 u2 => eqRoleSessionS_n h2 g2 t'.f2 w hn.l2 hn.o2 u1 u2)
  have M2 := hide m1.m2
  have P2 := hide m2.m2
  have X := hide ((RowIs.new w #[.slice h0.a h0.len h0.cap, .slice h1.a h1.len h1.cap, .slice h2.a h2.len h2.cap, .int .i64 t'.f3] 43).keep (bAl (Below.refl _ _) (.cells #[.slice g0.a g0.len g0.cap, .slice g1.a g1.len g1.cap, .slice g2.a g2.len g2.cap, .int .i64 t'.f3] 43)))
  have Y : Hid (RowIs ((w.alloc (.cells #[.slice h0.a h0.len h0.cap, .slice h1.a h1.len h1.cap, .slice h2.a h2.len h2.cap, .int .i64 t'.f3] 43)).alloc (.cells #[.slice g0.a g0.len g0.cap, .slice g1.a g1.len g1.cap, .slice g2.a g2.len g2.cap, .int .i64 t'.f3] 43)) (w.heap.size + 1) #[.slice g0.a g0.len g0.cap, .slice g1.a g1.len g1.cap, .slice g2.a g2.len g2.cap, .int .i64 t'.f3] 43) := hide (by have := RowIs.new (w.alloc (.cells #[.slice h0.a h0.len h0.cap, .slice h1.a h1.len h1.cap, .slice h2.a h2.len h2.cap, .int .i64 t'.f3] 43)) #[.slice g0.a g0.len g0.cap, .slice g1.a g1.len g1.cap, .slice g2.a g2.len g2.cap, .int .i64 t'.f3] 43; simpa using this)
  have B := hide (bAl (bAl (Below.refl w.heap.size w) (.cells #[.slice h0.a h0.len h0.cap, .slice h1.a h1.len h1.cap, .slice h2.a h2.len h2.cap, .int .i64 t'.f3] 43)) (.cells #[.slice g0.a g0.len g0.cap, .slice g1.a g1.len g1.cap, .slice g2.a g2.len g2.cap, .int .i64 t'.f3] 43))
  clear m1 m2 hn
  go_enter Tryz.func12, Tryz.ntmps12
  go_wp2_with fail
  refine (unhide q0 _ ((unhide M0).keep (unhide B)) ((unhide P0).keep (unhide B))).mono ?_
  rintro r w1 ⟨rfl, hb1⟩
  replace X := hide ((unhide X).keep hb1)
  replace Y := hide ((unhide Y).keep hb1)
  replace B := hide (bTr (unhide B) hb1)
  clear hb1 
  have c1 := (unhide X).at (o := 1) (v := .slice h1.a h1.len h1.cap) rfl
  have d1 := (unhide Y).at (o := 1) (v := .slice g1.a g1.len g1.cap) rfl
  go_wp2_with fail
  refine (unhide q1 _ ((unhide M1).keep (unhide B)) ((unhide P1).keep (unhide B))).mono ?_
  rintro r w2 ⟨rfl, hb1⟩
  replace X := hide ((unhide X).keep hb1)
  replace Y := hide ((unhide Y).keep hb1)
  replace B := hide (bTr (unhide B) hb1)
  clear hb1 c1 d1
  have c2 := (unhide X).at (o := 2) (v := .slice h2.a h2.len h2.cap) rfl
  have d2 := (unhide Y).at (o := 2) (v := .slice g2.a g2.len g2.cap) rfl
  go_wp2_with fail
  refine (unhide q2 _ ((unhide M2).keep (unhide B)) ((unhide P2).keep (unhide B))).mono ?_
  rintro r w3 ⟨rfl, hb1⟩
  replace X := hide ((unhide X).keep hb1)
  replace Y := hide ((unhide Y).keep hb1)
  replace B := hide (bTr (unhide B) hb1)
  clear hb1 c2 d2
  have c3 := (unhide X).at (o := 3) (v := .int .i64 t'.f3) rfl
  have d3 := (unhide Y).at (o := 3) (v := .int .i64 t'.f3) rfl
  go_wp2_with fail
  go_ret
  exact ⟨rfl, unhide B⟩

theorem listcRoleState {α : Type} {l : List α} (h : l.length = 4) : ∃ a0 a1 a2 a3, l = [a0, a1, a2, a3] := by
  match l, h with
  | [a0, a1, a2, a3], _ => exact ⟨a0, a1, a2, a3, rfl⟩
theorem listfRoleState {α : Type} {l : List α} (h : l.length = 4) : ∃ a0 a1 a2 a3, l = [a0, a1, a2, a3] := by
  match l, h with
  | [a0, a1, a2, a3], _ => exact ⟨a0, a1, a2, a3, rfl⟩
section
variable {H : Type} {enc : TypeId × Value → H} {w : World} {base : Nat} {sp : Nat → Bool} {held : Bool}
set_option maxRecDepth 100000 in
theorem read_RoleState {n : Nat} {cs : List Value} {x : DataW H × List MemPlace} (h : DataW.trod enc Tryz.prog w base sp held n 31 cs = some x) : ∃ e : RoleStateE, cs = [.slice e.h0.a e.h0.len e.h0.cap, .slice e.h1.a e.h1.len e.h1.cap, .slice e.h2.a e.h2.len e.h2.cap, .int .i64 e.t.f3] ∧ RoleStateN e.t ∧ RoleStateM w 0 e := by
  obtain ⟨xs, m, rfl, _, hlen, hx, hf⟩ := DataW.trod_struct Tryz.underlying31 h
  have hc : Tryz.prog.cellsOf 31 = 4 := by kernel_rfl
  have ky0 : Tryz.prog.cellsOf 27 = 1 := by kernel_rfl
  have ky1 : Tryz.prog.cellsOf 28 = 1 := by kernel_rfl
  have ky2 : Tryz.prog.cellsOf 29 = 1 := by kernel_rfl
  have ky3 : Tryz.prog.cellsOf 3 = 1 := by kernel_rfl
  obtain ⟨c0, c1, c2, c3, rfl⟩ := listcRoleState (hlen.trans hc)
  obtain ⟨x0, x1, x2, x3, rfl⟩ := listfRoleState hx
  have h0 : DataW.trod enc Tryz.prog w base sp held m 27 [c0] = some x0 := by have := hf 0 _ rfl; simpa [ky0, ky1, ky2, ky3] using this
  have g0 : ∃ a l c, c0 = .slice a l c := by
    rcases Go.Deep.open_slice Tryz.underlying27 h0 with ⟨hcs, _⟩ | ⟨a', len', cap', _, _, _, _, hcs, _⟩
    · simp at hcs; exact ⟨_, _, _, hcs⟩
    · simp at hcs; exact ⟨_, _, _, hcs⟩
  obtain ⟨a0, b0, d0, rfl⟩ := g0
  obtain ⟨y0, s0, ok0, ml0⟩ := readsI h0
  have h1 : DataW.trod enc Tryz.prog w base sp held m 28 [c1] = some x1 := by have := hf 1 _ rfl; simpa [ky0, ky1, ky2, ky3] using this
  have g1 : ∃ a l c, c1 = .slice a l c := by
    rcases Go.Deep.open_slice Tryz.underlying28 h1 with ⟨hcs, _⟩ | ⟨a', len', cap', _, _, _, _, hcs, _⟩
    · simp at hcs; exact ⟨_, _, _, hcs⟩
    · simp at hcs; exact ⟨_, _, _, hcs⟩
  obtain ⟨a1, b1, d1, rfl⟩ := g1
  obtain ⟨y1, s1, ok1, ml1⟩ := readsRoleGrant h1
  have h2 : DataW.trod enc Tryz.prog w base sp held m 29 [c2] = some x2 := by have := hf 2 _ rfl; simpa [ky0, ky1, ky2, ky3] using this
  have g2 : ∃ a l c, c2 = .slice a l c := by
    rcases Go.Deep.open_slice Tryz.underlying29 h2 with ⟨hcs, _⟩ | ⟨a', len', cap', _, _, _, _, hcs, _⟩
    · simp at hcs; exact ⟨_, _, _, hcs⟩
    · simp at hcs; exact ⟨_, _, _, hcs⟩
  obtain ⟨a2, b2, d2, rfl⟩ := g2
  obtain ⟨y2, s2, ok2, ml2⟩ := readsRoleSession h2
  have h3 : DataW.trod enc Tryz.prog w base sp held m 3 [c3] = some x3 := by have := hf 3 _ rfl; simpa [ky0, ky1, ky2, ky3] using this
  obtain ⟨y3, e3, _, _⟩ := DataW.trod_int Tryz.underlying3 h3
  simp at e3
  subst e3
  exact ⟨⟨⟨y0, y1, y2, y3⟩, ⟨a0, b0, d0⟩, ⟨a1, b1, d1⟩, ⟨a2, b2, d2⟩⟩, rfl, ⟨ok0, ml0, ok1, ml1, ok2, ml2, trivial⟩, ⟨s0, s1, s2, trivial⟩⟩
set_option maxRecDepth 100000 in
theorem came_RoleState {r : Reach} {b0 : Nat} {v0 : Value} {d : DataW H} {q : List MemPlace} (hv : Value.okWide Tryz.prog w r b0 31 v0) (h : DataW.Trod enc Tryz.prog w base sp held 31 v0 d q) : ∃ e : RoleStateE, v0 = .agg #[.slice e.h0.a e.h0.len e.h0.cap, .slice e.h1.a e.h1.len e.h1.cap, .slice e.h2.a e.h2.len e.h2.cap, .int .i64 e.t.f3] ∧ RoleStateN e.t ∧ RoleStateM w 0 e := by
  obtain ⟨cs, rfl, _⟩ := okWide_struct Tryz.underlying31 hv
  obtain ⟨fuel, hf0⟩ := h
  obtain ⟨e, h1, h2, h3⟩ := read_RoleState hf0
  refine ⟨e, ?_, h2, h3⟩
  obtain ⟨l⟩ := cs
  simp only [Value.cells] at h1
  rw [h1]
end
end Go.Proofs.YtfbncneeimikcaaGreat.V
/- Grants that count, and the least Depth of those of a user and a role. Pure. -/
namespace Go.Proofs.YtfbncneeimikcaaGreat.V
set_option linter.unusedSimpArgs false
set_option linter.unusedVariables false
open Go.RowKit Go.Maps

/-- User u has a grant of role r, of a depth below a bound, that counts at t; k: so far it is looked. -/
def CntF (l : List RoleGrantT) (t : Int) : Nat → Int → ByteArray → ByteArray → Prop
  | 0, _, _, _ => False
  | k + 1, below, u, r => ∃ g ∈ l, g.f0 = u ∧ g.f1 = r ∧ g.f4 < below ∧ t ≤ g.f3 ∧ (g.f2 = ⟨#[]⟩ ∨ CntF l t k g.f4 g.f2 r)
theorem cnt_fuel {l : List RoleGrantT} {t : Int} (h0 : ∀ g ∈ l, 0 ≤ g.f4) : ∀ (k k' : Nat) (below : Int) (u r : ByteArray), below ≤ k → below ≤ k' → (CntF l t k below u r ↔ CntF l t k' below u r)
  | 0, 0, _, _, _, _, _ => Iff.rfl
  | 0, k' + 1, below, u, r, h1, _ => ⟨fun h => h.elim, fun ⟨g, hg, _, _, h, _⟩ => by have := h0 g hg; omega⟩
  | k + 1, 0, below, u, r, _, h1 => ⟨fun ⟨g, hg, _, _, h, _⟩ => by have := h0 g hg; omega, fun h => h.elim⟩
  | k + 1, k' + 1, below, u, r, h1, h2 => by
    constructor
    · rintro ⟨g, hg, a, b, c, d, e⟩
      exact ⟨g, hg, a, b, c, d, e.imp_right fun h => (cnt_fuel h0 k k' g.f4 g.f2 r (by omega) (by omega)).1 h⟩
    · rintro ⟨g, hg, a, b, c, d, e⟩
      exact ⟨g, hg, a, b, c, d, e.imp_right fun h => (cnt_fuel h0 k k' g.f4 g.f2 r (by omega) (by omega)).2 h⟩
/-- The grant counts. -/
def CG (l : List RoleGrantT) (t : Int) (g : RoleGrantT) : Prop := t ≤ g.f3 ∧ (g.f2 = ⟨#[]⟩ ∨ CntF l t 3 g.f4 g.f2 g.f1)
/-- The Depths are as said. -/
def DepOk (l : List RoleGrantT) : Prop := ∀ g ∈ l, 0 ≤ g.f4 ∧ g.f4 ≤ 2
theorem cg_iff {l : List RoleGrantT} {t : Int} (h : DepOk l) {g : RoleGrantT} (hg : g ∈ l) : CG l t g ↔ (t ≤ g.f3 ∧ (g.f2 = ⟨#[]⟩ ∨ ∃ g' ∈ l, g'.f0 = g.f2 ∧ g'.f1 = g.f1 ∧ g'.f4 < g.f4 ∧ CG l t g')) := by
  have h0 : ∀ g ∈ l, 0 ≤ g.f4 := fun g hg => (h g hg).1
  have key : CntF l t 3 g.f4 g.f2 g.f1 ↔ ∃ g' ∈ l, g'.f0 = g.f2 ∧ g'.f1 = g.f1 ∧ g'.f4 < g.f4 ∧ CG l t g' := by
    constructor
    · rintro ⟨g', hg', a, b, c, d, e⟩
      refine ⟨g', hg', a, b, c, d, e.imp_right fun h1 => ?_⟩
      rw [b]
      exact (cnt_fuel h0 2 3 g'.f4 g'.f2 g.f1 (by have := (h g' hg').2; omega) (by have := (h g' hg').2; omega)).1 h1
    · rintro ⟨g', hg', a, b, c, d, e⟩
      refine ⟨g', hg', a, b, c, d, e.imp_right fun h1 => ?_⟩
      rw [b] at h1
      exact (cnt_fuel h0 2 3 g'.f4 g'.f2 g.f1 (by have := (h g' hg').2; omega) (by have := (h g' hg').2; omega)).2 h1
  unfold CG
  rw [key]
  rfl
/-- m is a Depth of a grant of u and r that counts, among those that were looked at: all of lesser Depths, and the first k of Depth D. -/
def DpP (l : List RoleGrantT) (t : Int) (D k : Nat) (u r : ByteArray) (m : Nat) : Prop := ∃ i, ∃ h : i < l.length, (l[i].f0 = u ∧ l[i].f1 = r ∧ CG l t l[i] ∧ l[i].f4 = (m : Int)) ∧ (m < D ∨ m = D ∧ i < k)
/-- L tells the least of them. -/
def DpI (l : List RoleGrantT) (t : Int) (D k : Nat) (L : ByteArray → ByteArray → Option Nat) : Prop := ∀ u r m, L u r = some m ↔ (DpP l t D k u r m ∧ ∀ m', DpP l t D k u r m' → m ≤ m')
theorem DpI.start (l : List RoleGrantT) (t : Int) : DpI l t 0 0 (fun _ _ => none) := fun u r m => ⟨fun h => (by cases h), fun ⟨⟨i, hi, _, h⟩, _⟩ => by omega⟩
theorem least_some {P : Nat → Prop} : ∀ {m : Nat}, P m → ∃ n, P n ∧ ∀ m', P m' → n ≤ m' := by
  intro m
  induction m using Nat.strongRecOn with
  | ind m ih =>
    intro h
    by_cases hx : ∃ q, q < m ∧ P q
    · obtain ⟨q, h1, h2⟩ := hx
      exact ih q h1 h2
    · exact ⟨m, h, fun m' h' => Nat.le_of_not_lt fun hlt => hx ⟨m', hlt, h'⟩⟩
theorem DpI.some {l : List RoleGrantT} {t : Int} {D k : Nat} {L : ByteArray → ByteArray → Option Nat} (h : DpI l t D k L) {u r : ByteArray} {m : Nat} (hp : DpP l t D k u r m) : ∃ n, L u r = some n ∧ n ≤ m := by
  obtain ⟨n, h1, h2⟩ := least_some hp
  exact ⟨n, (h u r n).2 ⟨h1, h2⟩, h2 m hp⟩
theorem DpI.none {l : List RoleGrantT} {t : Int} {D k : Nat} {L : ByteArray → ByteArray → Option Nat} (h : DpI l t D k L) {u r : ByteArray} (hn : L u r = none) (m : Nat) : ¬ DpP l t D k u r m := fun hp => by
  obtain ⟨n, h1, _⟩ := h.some hp
  rw [hn] at h1; cases h1
/-- What counts says of the k-th grant, of Depth D. -/
theorem DpI.counts {l : List RoleGrantT} {t : Int} {D k : Nat} {L : ByteArray → ByteArray → Option Nat} (h : DpI l t D k L) (hd : DepOk l) (hk : k < l.length) (hD : l[k].f4 = (D : Int)) : CG l t l[k] ↔ (t ≤ l[k].f3 ∧ (l[k].f2 = ⟨#[]⟩ ∨ ∃ m, L l[k].f2 l[k].f1 = Option.some m ∧ (m : Int) < l[k].f4)) := by
  rw [cg_iff hd (List.getElem_mem hk)]
  refine and_congr_right fun _ => or_congr_right ?_
  constructor
  · rintro ⟨g', hg', a, b, c, d⟩
    obtain ⟨i, hi, rfl⟩ := List.getElem_of_mem hg'
    obtain ⟨z1, z2⟩ := hd _ hg'
    have hp : DpP l t D k l[k].f2 l[k].f1 l[i].f4.toNat := ⟨i, hi, ⟨a, b, d, by omega⟩, .inl (by omega)⟩
    obtain ⟨n, h1, h2⟩ := h.some hp
    exact ⟨n, h1, by omega⟩
  · rintro ⟨m, h1, h2⟩
    obtain ⟨⟨i, hi, ⟨a, b, c, d⟩, e⟩, _⟩ := (h _ _ m).1 h1
    exact ⟨l[i], List.getElem_mem hi, a, b, by omega, c⟩
/-- The next grant is passed by. -/
theorem DpI.skip {l : List RoleGrantT} {t : Int} {D k : Nat} {L : ByteArray → ByteArray → Option Nat} (h : DpI l t D k L) (hk : k < l.length) (hn : ¬ (l[k].f4 = (D : Int) ∧ CG l t l[k])) : DpI l t D (k + 1) L := by
  have e : ∀ u r m, DpP l t D (k + 1) u r m ↔ DpP l t D k u r m := fun u r m => by
    constructor
    · rintro ⟨i, hi, ⟨a, b, c, d⟩, e | ⟨e, f⟩⟩
      · exact ⟨i, hi, ⟨a, b, c, d⟩, .inl e⟩
      · by_cases he : i = k
        · subst he; exact absurd ⟨by rw [d, e], c⟩ hn
        · exact ⟨i, hi, ⟨a, b, c, d⟩, .inr ⟨e, by omega⟩⟩
    · rintro ⟨i, hi, a, e | ⟨e, f⟩⟩
      · exact ⟨i, hi, a, .inl e⟩
      · exact ⟨i, hi, a, .inr ⟨e, by omega⟩⟩
  intro u r m
  rw [h u r m, e]
  exact and_congr_right fun _ => ⟨fun q m' hp => q m' ((e u r m').1 hp), fun q m' hp => q m' ((e u r m').2 hp)⟩
def updL2 (L : ByteArray → ByteArray → Option Nat) (u r : ByteArray) (m : Nat) : ByteArray → ByteArray → Option Nat := fun u' r' => if u' = u ∧ r' = r then Option.some m else L u' r'
/-- The next grant is put in. -/
theorem DpI.take {l : List RoleGrantT} {t : Int} {D k : Nat} {L : ByteArray → ByteArray → Option Nat} (h : DpI l t D k L) (hk : k < l.length) (hD : l[k].f4 = (D : Int)) (hc : CG l t l[k]) : DpI l t D (k + 1) (match L l[k].f0 l[k].f1 with | Option.some _ => L | Option.none => updL2 L l[k].f0 l[k].f1 D) := by
  have e : ∀ u r m, DpP l t D (k + 1) u r m ↔ (DpP l t D k u r m ∨ (u = l[k].f0 ∧ r = l[k].f1 ∧ m = D)) := fun u r m => by
    constructor
    · rintro ⟨i, hi, ⟨a, b, c, d⟩, e | ⟨e, f⟩⟩
      · exact .inl ⟨i, hi, ⟨a, b, c, d⟩, .inl e⟩
      · by_cases he : i = k
        · subst he; exact .inr ⟨a.symm, b.symm, e⟩
        · exact .inl ⟨i, hi, ⟨a, b, c, d⟩, .inr ⟨e, by omega⟩⟩
    · rintro (⟨i, hi, a, e | ⟨e, f⟩⟩ | ⟨rfl, rfl, rfl⟩)
      · exact ⟨i, hi, a, .inl e⟩
      · exact ⟨i, hi, a, .inr ⟨e, by omega⟩⟩
      · exact ⟨k, hk, ⟨rfl, rfl, hc, hD⟩, .inr ⟨rfl, by omega⟩⟩
  have le : ∀ u r m, DpP l t D k u r m → m ≤ D := fun u r m ⟨i, hi, _, e⟩ => by omega
  cases hL : L l[k].f0 l[k].f1 with
  | some n =>
    simp only
    have hn := (h _ _ n).1 hL
    intro u r m
    rw [h u r m]
    constructor
    · rintro ⟨h1, h2⟩
      refine ⟨(e u r m).2 (.inl h1), fun m' hp => ?_⟩
      rcases (e u r m').1 hp with q | ⟨rfl, rfl, rfl⟩
      · exact h2 m' q
      · exact le _ _ _ h1
    · rintro ⟨h1, h2⟩
      have h3 : ∀ m', DpP l t D k u r m' → m ≤ m' := fun m' hp => h2 m' ((e u r m').2 (.inl hp))
      rcases (e u r m).1 h1 with q | ⟨rfl, rfl, rfl⟩
      · exact ⟨q, h3⟩
      · have := h3 n hn.1
        have := le _ _ _ hn.1
        obtain rfl : n = m := by omega
        exact ⟨hn.1, h3⟩
  | none =>
    simp only
    intro u r m
    unfold updL2
    by_cases hu : u = l[k].f0 ∧ r = l[k].f1
    · obtain ⟨rfl, rfl⟩ := hu
      simp only [and_self, if_true, Option.some.injEq]
      constructor
      · rintro rfl
        refine ⟨(e _ _ _).2 (.inr ⟨rfl, rfl, rfl⟩), fun m' hp => ?_⟩
        rcases (e _ _ m').1 hp with q | ⟨_, _, q⟩
        · exact absurd q (h.none hL m')
        · omega
      · rintro ⟨h1, _⟩
        rcases (e _ _ m).1 h1 with q | ⟨_, _, q⟩
        · exact absurd q (h.none hL m)
        · omega
    · simp only [hu, if_false]
      rw [h u r m]
      have e2 : ∀ m, DpP l t D (k + 1) u r m ↔ DpP l t D k u r m := fun m => (e u r m).trans ⟨fun q => q.elim id fun ⟨a, b, _⟩ => absurd ⟨a, b⟩ hu, .inl⟩
      rw [e2]
      exact and_congr_right fun _ => ⟨fun q m' hp => q m' ((e2 m').1 hp), fun q m' hp => q m' ((e2 m').2 hp)⟩
theorem DpI.level {l : List RoleGrantT} {t : Int} {D : Nat} {L : ByteArray → ByteArray → Option Nat} (h : DpI l t D l.length L) : DpI l t (D + 1) 0 L := by
  have e : ∀ u r m, DpP l t (D + 1) 0 u r m ↔ DpP l t D l.length u r m := fun u r m => by
    constructor
    · rintro ⟨i, hi, a, e | ⟨e, f⟩⟩
      · by_cases he : m = D
        · exact ⟨i, hi, a, .inr ⟨he, hi⟩⟩
        · exact ⟨i, hi, a, .inl (by omega)⟩
      · omega
    · rintro ⟨i, hi, a, e⟩
      exact ⟨i, hi, a, .inl (by omega)⟩
  intro u r m
  rw [h u r m, e]
  exact and_congr_right fun _ => ⟨fun q m' hp => q m' ((e u r m').1 hp), fun q m' hp => q m' ((e u r m').2 hp)⟩
/-- All levels done: who has a grant that counts. -/
theorem DpI.has {l : List RoleGrantT} {t : Int} {L : ByteArray → ByteArray → Option Nat} (h : DpI l t 3 0 L) (hd : DepOk l) (u r : ByteArray) : (L u r).isSome = true ↔ ∃ g ∈ l, g.f0 = u ∧ g.f1 = r ∧ CG l t g := by
  constructor
  · intro hs
    obtain ⟨m, hm⟩ := Option.isSome_iff_exists.1 hs
    obtain ⟨⟨i, hi, ⟨a, b, c, _⟩, _⟩, _⟩ := (h u r m).1 hm
    exact ⟨l[i], List.getElem_mem hi, a, b, c⟩
  · rintro ⟨g, hg, a, b, c⟩
    obtain ⟨i, hi, rfl⟩ := List.getElem_of_mem hg
    obtain ⟨z1, z2⟩ := hd _ hg
    obtain ⟨n, hn, _⟩ := h.some (u := u) (r := r) (m := l[i].f4.toNat) ⟨i, hi, ⟨a, b, c, by omega⟩, .inl (by omega)⟩
    rw [hn]; rfl
end Go.Proofs.YtfbncneeimikcaaGreat.V
