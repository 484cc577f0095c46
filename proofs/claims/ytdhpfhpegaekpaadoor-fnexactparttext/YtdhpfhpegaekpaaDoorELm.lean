/- impl.Elem in memory, by what it holds: sized, copied, held against itself, read. -/
import Derived.Test.YtdhpfhpegaekpaaDoorZRow
namespace Go.Proofs.YtdhpfhpegaekpaaDoor.V
set_option linter.unusedSimpArgs false
open Go.ChangeShapes Go.WideShapes Go.RowKit

structure ElemT where
  f0 : ByteArray
  f1 : ByteArray
  f2 : List ByteArray
  f3 : List ByteArray
  f4 : Int
structure ElemE where
  t : ElemT
  h2 : Hd
  h3 : Hd
structure ElemN (x : ElemT) : Prop where
  o0 : x.f0.size ≤ maxLen
  o1 : x.f1.size ≤ maxLen
  o2 : ∀ q ∈ x.f2, ByteArray.size q ≤ maxLen
  l2 : x.f2.length ≤ maxLen
  o3 : ∀ q ∈ x.f3, ByteArray.size q ≤ maxLen
  l3 : x.f3.length ≤ maxLen
  tt : True
structure ElemSm (x : ElemT) : Prop where
  l2 : x.f2.length ≤ 1048576
  l3 : x.f3.length ≤ 1048576
  tt : True
structure ElemM (w : World) (lo : Nat) (e : ElemE) : Prop where
  m2 : SqS w lo e.h2 e.t.f2
  m3 : SqS w lo e.h3 e.t.f3
  tt : True
theorem ElemM.fr {w w1 : World} {lo : Nat} {e : ElemE} (h : ElemM w lo e) (hf : Fr lo w w1) : ElemM w1 lo e := ⟨h.m2.fr hf, h.m3.fr hf, h.tt⟩
theorem ElemM.lo {w : World} {lo lo' : Nat} {e : ElemE} (h : ElemM w lo e) (hl : lo' ≤ lo) : ElemM w lo' e := ⟨h.m2.lo hl, h.m3.lo hl, h.tt⟩
theorem ElemM.keep {w w1 : World} {lo : Nat} {e : ElemE} (h : ElemM w lo e) (hb : Below w.heap.size w w1) : ElemM w1 lo e := h.fr (Fr.below hb lo)
structure ElemRow (w : World) (b off : Nat) (l : List ElemE) : Prop where
  z : b < w.heap.size
  c0 : ∀ i (h : i < l.length), w.cell? ⟨b, off + i * 5, none⟩ = some (.string l[i].t.f0)
  c1 : ∀ i (h : i < l.length), w.cell? ⟨b, off + i * 5 + 1, none⟩ = some (.string l[i].t.f1)
  c2 : ∀ i (h : i < l.length), w.cell? ⟨b, off + i * 5 + 2, none⟩ = some (.slice l[i].h2.a l[i].h2.len l[i].h2.cap)
  c3 : ∀ i (h : i < l.length), w.cell? ⟨b, off + i * 5 + 3, none⟩ = some (.slice l[i].h3.a l[i].h3.len l[i].h3.cap)
  c4 : ∀ i (h : i < l.length), w.cell? ⟨b, off + i * 5 + 4, none⟩ = some (.int .i64 l[i].t.f4)
theorem ElemRow.fr {w w1 : World} {lo b off : Nat} {l : List ElemE} (h : ElemRow w b off l) (hf : Fr lo w w1) (hb : lo ≤ b) : ElemRow w1 b off l :=
  ⟨Nat.lt_of_lt_of_le h.z hf.size, fun i hi => hf.cell _ _ _ hb (h.c0 i hi), fun i hi => hf.cell _ _ _ hb (h.c1 i hi), fun i hi => hf.cell _ _ _ hb (h.c2 i hi), fun i hi => hf.cell _ _ _ hb (h.c3 i hi), fun i hi => hf.cell _ _ _ hb (h.c4 i hi)⟩
/-- A slice of these: the rows, and what each of them holds. -/
def SqElemE (w : World) (lo : Nat) (h : Hd) (l : List ElemE) : Prop := h.len = l.length ∧ (l = [] ∨ ∃ b off, h.a = some ⟨b, off, none⟩ ∧ Lo w lo b ∧ ElemRow w b off l) ∧ ∀ e ∈ l, ElemM w lo e
theorem SqElemE.fr {w w1 : World} {lo : Nat} {h : Hd} {l : List ElemE} (s : SqElemE w lo h l) (hf : Fr lo w w1) : SqElemE w1 lo h l :=
  ⟨s.1, s.2.1.imp id fun ⟨b, off, e, hb, r⟩ => ⟨b, off, e, hb.fr hf r.z, r.fr hf hb.1⟩, fun e he => (s.2.2 e he).fr hf⟩
theorem SqElemE.lo {w : World} {lo lo' : Nat} {h : Hd} {l : List ElemE} (s : SqElemE w lo h l) (hl : lo' ≤ lo) : SqElemE w lo' h l :=
  ⟨s.1, s.2.1.imp id fun ⟨b, off, e, hb, r⟩ => ⟨b, off, e, hb.lo hl, r⟩, fun e he => (s.2.2 e he).lo hl⟩
theorem SqElemE.keep {w w1 : World} {lo : Nat} {h : Hd} {l : List ElemE} (s : SqElemE w lo h l) (hb : Below w.heap.size w w1) : SqElemE w1 lo h l := s.fr (Fr.below hb lo)
theorem SqElemE.at {w : World} {lo : Nat} {h : Hd} {l : List ElemE} (s : SqElemE w lo h l) {k : Nat} (hk : k < h.len) : ∃ b off, h.a = some ⟨b, off, none⟩ ∧ ElemRow w b off l := by
  rcases s.2.1 with e | ⟨b, off, e, _, r⟩
  · rw [s.1, e] at hk; simp at hk
  · exact ⟨b, off, e, r⟩
def SqElem (w : World) (lo : Nat) (h : Hd) (xs : List ElemT) : Prop := ∃ l : List ElemE, l.map (·.t) = xs ∧ SqElemE w lo h l
theorem SqElem.fr {w w1 : World} {lo : Nat} {h : Hd} {xs : List ElemT} (s : SqElem w lo h xs) (hf : Fr lo w w1) : SqElem w1 lo h xs := ⟨s.choose, s.choose_spec.1, s.choose_spec.2.fr hf⟩
theorem SqElem.lo {w : World} {lo lo' : Nat} {h : Hd} {xs : List ElemT} (s : SqElem w lo h xs) (hl : lo' ≤ lo) : SqElem w lo' h xs := ⟨s.choose, s.choose_spec.1, s.choose_spec.2.lo hl⟩
theorem SqElem.keep {w w1 : World} {lo : Nat} {h : Hd} {xs : List ElemT} (s : SqElem w lo h xs) (hb : Below w.heap.size w w1) : SqElem w1 lo h xs := s.fr (Fr.below hb lo)
theorem SqElem.len {w : World} {lo : Nat} {h : Hd} {xs : List ElemT} (s : SqElem w lo h xs) : h.len = xs.length := by
  obtain ⟨l, rfl, s⟩ := s
  rw [s.1]; simp

set_option maxRecDepth 20000 in
set_option maxHeartbeats 2000000 in
theorem szElem_n (e : ElemE) (left : Int) (w : World) (h0 : 0 ≤ left) (h1 : left ≤ 1048576) (ho : ElemN e.t) (hm : ElemM w 0 e) :
    Calls Tryd.prog 12 #[.agg #[.string e.t.f0, .string e.t.f1, .slice e.h2.a e.h2.len e.h2.cap, .slice e.h3.a e.h3.len e.h3.cap, .int .i64 e.t.f4], .int .i64 left] w fun r w' => (∃ m : Int, -1 ≤ m ∧ m ≤ left ∧ (0 ≤ m → ElemSm e.t) ∧ r = .returned (.int .i64 m)) ∧ Below w.heap.size w w' := by
  have s0 := ho.o0
  unfold maxLen at s0
  have s1 := ho.o1
  unfold maxLen at s1
  have q2 := hide (fun l w h0 h1 hs => szStringS_n e.h2 e.t.f2 l w h0 h1 ho.o2 ho.l2 hs)
  have M2 := hide hm.m2
  have q3 := hide (fun l w h0 h1 hs => szStringS_n e.h3 e.t.f3 l w h0 h1 ho.o3 ho.l3 hs)
  have M3 := hide hm.m3
  have R := hide (RowIs.new w #[.string e.t.f0, .string e.t.f1, .slice e.h2.a e.h2.len e.h2.cap, .slice e.h3.a e.h3.len e.h3.cap, .int .i64 e.t.f4] 34)
  have B := hide (bAl (Below.refl w.heap.size w) (.cells #[.string e.t.f0, .string e.t.f1, .slice e.h2.a e.h2.len e.h2.cap, .slice e.h3.a e.h3.len e.h3.cap, .int .i64 e.t.f4] 34))
  clear ho hm
  go_enter Tryd.func12, Tryd.ntmps12
  by_cases g0 : left < (e.t.f0.size : Int)
  · have d0 : decide (left - (e.t.f0.size : Int) < 0) = true := by simp; omega
    go_wp2_with fail
    go_ret
    exact ⟨⟨-1, by omega, by omega, by omega, rfl⟩, unhide B⟩
  have d0 : decide (left - (e.t.f0.size : Int) < 0) = false := by simp; omega
  by_cases g1 : left - (e.t.f0.size : Int) < (e.t.f1.size : Int)
  · have d1 : decide (left - (e.t.f0.size : Int) - (e.t.f1.size : Int) < 0) = true := by simp; omega
    go_wp2_with fail
    go_ret
    exact ⟨⟨-1, by omega, by omega, by omega, rfl⟩, unhide B⟩
  have d1 : decide (left - (e.t.f0.size : Int) - (e.t.f1.size : Int) < 0) = false := by simp; omega
  go_wp2_with fail
  refine (unhide q2 _ _ (by omega) (by omega) ((unhide M2).keep (unhide B))).mono ?_
  rintro r w1 ⟨⟨m2, x2, y2, z2, rfl⟩, hb1⟩
  have Z2 := hide z2
  clear z2
  replace R := hide ((unhide R).keep hb1)
  replace B := hide (bTr (unhide B) hb1)
  clear hb1 
  by_cases e2 : m2 < 0
  · go_wp2_with fail
    go_ret
    exact ⟨⟨-1, by omega, by omega, by omega, rfl⟩, unhide B⟩
  have c3 := (unhide R).at (o := 3) (v := .slice e.h3.a e.h3.len e.h3.cap) rfl
  go_wp2_with fail
  refine (unhide q3 _ _ (by omega) (by omega) ((unhide M3).keep (unhide B))).mono ?_
  rintro r w2 ⟨⟨m3, x3, y3, z3, rfl⟩, hb1⟩
  have Z3 := hide z3
  clear z3
  replace R := hide ((unhide R).keep hb1)
  replace B := hide (bTr (unhide B) hb1)
  clear hb1 c3
  by_cases e3 : m3 < 0
  · go_wp2_with fail
    go_ret
    exact ⟨⟨-1, by omega, by omega, by omega, rfl⟩, unhide B⟩
  go_wp2_with fail
  go_ret
  exact ⟨⟨_, by omega, by omega, fun _ => ⟨unhide Z2 (by omega), unhide Z3 (by omega), trivial⟩, rfl⟩, unhide B⟩

set_option maxRecDepth 40000 in
set_option maxHeartbeats 8000000 in
theorem toElem_n (e : ElemE) (w : World) (hs : ElemSm e.t) (hm : ElemM w 0 e) :
    Calls Tryd.prog 16 #[.agg #[.string e.t.f0, .string e.t.f1, .slice e.h2.a e.h2.len e.h2.cap, .slice e.h3.a e.h3.len e.h3.cap, .int .i64 e.t.f4]] w fun r w' => (∃ e' : ElemE, e'.t = e.t ∧ r = .returned (.agg #[.string e'.t.f0, .string e'.t.f1, .slice e'.h2.a e'.h2.len e'.h2.cap, .slice e'.h3.a e'.h3.len e'.h3.cap, .int .i64 e'.t.f4]) ∧ ElemM w' w.heap.size e') ∧ Below w.heap.size w w' := by
  have q2 := hide (fun w hm => toStringS_n e.h2 e.t.f2 w hs.l2 hm)
  have M2 := hide hm.m2
  have q3 := hide (fun w hm => toStringS_n e.h3 e.t.f3 w hs.l3 hm)
  have M3 := hide hm.m3
  clear hs hm
  obtain ⟨W0, hW0⟩ : ∃ W, W = ((w.alloc (.cells #[.string e.t.f0, .string e.t.f1, .slice e.h2.a e.h2.len e.h2.cap, .slice e.h3.a e.h3.len e.h3.cap, .int .i64 e.t.f4] 34)).alloc (.cells #[.string ⟨#[]⟩, .string ⟨#[]⟩, .slice none 0 0, .slice none 0 0, .int .i64 0] 35)).alloc (.cells #[.string e.t.f0, .string e.t.f1, .slice none 0 0, .slice none 0 0, .int .i64 0] 35) := ⟨_, rfl⟩
  have z0 : W0.heap.size = w.heap.size + 1 + 1 + 1 := by rw [hW0]; simp
  have b0 : Below w.heap.size w W0 := by rw [hW0]; exact bAl (bAl (bAl (Below.refl _ _) _) _) _
  have A0 : RowIs W0 w.heap.size #[.string e.t.f0, .string e.t.f1, .slice e.h2.a e.h2.len e.h2.cap, .slice e.h3.a e.h3.len e.h3.cap, .int .i64 e.t.f4] 34 := by rw [hW0]; exact ((RowIs.new w _ _).keep (bAl (Below.refl _ _) _)).keep (bAl (Below.refl _ _) _)
  have Z0 : RowIs W0 (w.heap.size + 1) #[.string ⟨#[]⟩, .string ⟨#[]⟩, .slice none 0 0, .slice none 0 0, .int .i64 0] 35 := by
    rw [hW0]
    have := (RowIs.new (w.alloc (.cells #[.string e.t.f0, .string e.t.f1, .slice e.h2.a e.h2.len e.h2.cap, .slice e.h3.a e.h3.len e.h3.cap, .int .i64 e.t.f4] 34)) #[.string ⟨#[]⟩, .string ⟨#[]⟩, .slice none 0 0, .slice none 0 0, .int .i64 0] 35).keep (bAl (Below.refl _ _) (.cells #[.string e.t.f0, .string e.t.f1, .slice none 0 0, .slice none 0 0, .int .i64 0] 35))
    simpa using this
  have O0 : RowIs W0 (w.heap.size + 1 + 1) #[.string e.t.f0, .string e.t.f1, .slice none 0 0, .slice none 0 0, .int .i64 0] 35 := by
    rw [hW0]
    have := RowIs.new ((w.alloc (.cells #[.string e.t.f0, .string e.t.f1, .slice e.h2.a e.h2.len e.h2.cap, .slice e.h3.a e.h3.len e.h3.cap, .int .i64 e.t.f4] 34)).alloc (.cells #[.string ⟨#[]⟩, .string ⟨#[]⟩, .slice none 0 0, .slice none 0 0, .int .i64 0] 35)) #[.string e.t.f0, .string e.t.f1, .slice none 0 0, .slice none 0 0, .int .i64 0] 35
    simpa using this
  have HW := hide hW0
  have hne1 : w.heap.size ≠ w.heap.size + 1 + 1 := by omega
  have hne2 : w.heap.size + 1 ≠ w.heap.size + 1 + 1 := by omega
  clear hW0
  go_enter Tryd.func16, Tryd.ntmps16
  go_wp2_with fail
  rw [← unhide HW]
  clear HW
  have Oh := hide O0
  clear O0
  have Zh := hide Z0
  clear Z0
  have Ah := hide A0
  clear A0
  have Bh := hide b0
  have Gh : Hid (w.heap.size + 3 ≤ W0.heap.size) := hide (by omega)
  clear b0 z0
  refine (unhide q2 _ ((unhide M2).keep (unhide Bh))).mono ?_
  rintro r v2 ⟨⟨k2, rfl, hk2⟩, hb1⟩
  have K2 := hide (hk2.lo (unhide Gh))
  clear hk2
  have Gn : Hid (w.heap.size + 3 ≤ v2.heap.size) := hide (Nat.le_trans (unhide Gh) hb1.size)
  clear Gh
  have Gh := Gn
  clear Gn
  replace Oh := hide ((unhide Oh).keep hb1)
  replace Zh := hide ((unhide Zh).keep hb1)
  replace Ah := hide ((unhide Ah).keep hb1)
  replace Bh := hide (bTr (unhide Bh) hb1)
  clear hb1
  have k_2 := (unhide Oh).at (o := 2) (v := .slice none 0 0) rfl
  have g_2 := (unhide Oh).froz 2
  have a_3 := (unhide Ah).at (o := 3) (v := .slice e.h3.a e.h3.len e.h3.cap) rfl
  obtain ⟨W1, hW⟩ : ∃ W, W = (v2.setCell ⟨w.heap.size + 1 + 1, 2, none⟩ (.slice k2.a k2.len k2.cap)) := ⟨_, rfl⟩
  have On : Hid (RowIs W1 (w.heap.size + 1 + 1) #[.string e.t.f0, .string e.t.f1, .slice k2.a k2.len k2.cap, .slice none 0 0, .int .i64 0] 35) := hide (by have h := ((unhide Oh).set 2 (.slice k2.a k2.len k2.cap)); simp only [List.setIfInBounds_toArray, List.set_cons_zero, List.set_cons_succ] at h; rw [hW]; exact h)
  have Zn : Hid (RowIs W1 (w.heap.size + 1) #[.string ⟨#[]⟩, .string ⟨#[]⟩, .slice none 0 0, .slice none 0 0, .int .i64 0] 35) := hide (by rw [hW]; exact ((unhide Zh).setOther (o' := 2) (.slice k2.a k2.len k2.cap) hne2))
  have An : Hid (RowIs W1 w.heap.size #[.string e.t.f0, .string e.t.f1, .slice e.h2.a e.h2.len e.h2.cap, .slice e.h3.a e.h3.len e.h3.cap, .int .i64 e.t.f4] 34) := hide (by rw [hW]; exact ((unhide Ah).setOther (o' := 2) (.slice k2.a k2.len k2.cap) hne1))
  have Bn : Hid (Below w.heap.size w W1) := hide (by rw [hW]; exact (bSt (unhide Bh) (b := w.heap.size + 1 + 1) (by omega) 2 (.slice k2.a k2.len k2.cap)))
  have Gn : Hid (w.heap.size + 3 ≤ W1.heap.size) := hide (by rw [hW]; simp only [size_sc]; exact unhide Gh)
  replace K2 := hide (show SqS W1 (w.heap.size + 3) k2 e.t.f2 by rw [hW]; exact (unhide K2).fr ((Fr.below (Below.refl _ v2) _).sets (.slice k2.a k2.len k2.cap) (by omega)))
  have HW := hide hW.symm
  clear hW Oh Zh Ah Bh Gh
  have Oh := On
  clear On
  have Zh := Zn
  clear Zn
  have Ah := An
  clear An
  have Bh := Bn
  clear Bn
  have Gh := Gn
  clear Gn
  go_wp2_with fail
  rw [unhide HW]
  clear HW k_2 g_2 a_3
  refine (unhide q3 _ ((unhide M3).keep (unhide Bh))).mono ?_
  rintro r v3 ⟨⟨k3, rfl, hk3⟩, hb1⟩
  have K3 := hide (hk3.lo (unhide Gh))
  clear hk3
  have Gn : Hid (w.heap.size + 3 ≤ v3.heap.size) := hide (Nat.le_trans (unhide Gh) hb1.size)
  clear Gh
  have Gh := Gn
  clear Gn
  replace Oh := hide ((unhide Oh).keep hb1)
  replace Zh := hide ((unhide Zh).keep hb1)
  replace Ah := hide ((unhide Ah).keep hb1)
  replace Bh := hide (bTr (unhide Bh) hb1)
  replace K2 := hide ((unhide K2).keep hb1)
  clear hb1
  have k_3 := (unhide Oh).at (o := 3) (v := .slice none 0 0) rfl
  have g_3 := (unhide Oh).froz 3
  have k_4 := (unhide Oh).at (o := 4) (v := .int .i64 0) rfl
  have g_4 := (unhide Oh).froz 4
  have zO := (unhide Oh).lt
  have zA := (unhide Ah).lt
  have a_4 := (unhide Ah).at (o := 4) (v := .int .i64 e.t.f4) rfl
  obtain ⟨W2, hW⟩ : ∃ W, W = ((v3.setCell ⟨w.heap.size + 1 + 1, 3, none⟩ (.slice k3.a k3.len k3.cap)).setCell ⟨w.heap.size + 1 + 1, 4, none⟩ (.int .i64 e.t.f4)) := ⟨_, rfl⟩
  have On : Hid (RowIs W2 (w.heap.size + 1 + 1) #[.string e.t.f0, .string e.t.f1, .slice k2.a k2.len k2.cap, .slice k3.a k3.len k3.cap, .int .i64 e.t.f4] 35) := hide (by have h := (((unhide Oh).set 3 (.slice k3.a k3.len k3.cap)).set 4 (.int .i64 e.t.f4)); simp only [List.setIfInBounds_toArray, List.set_cons_zero, List.set_cons_succ] at h; rw [hW]; exact h)
  have Zn : Hid (RowIs W2 (w.heap.size + 1) #[.string ⟨#[]⟩, .string ⟨#[]⟩, .slice none 0 0, .slice none 0 0, .int .i64 0] 35) := hide (by rw [hW]; exact (((unhide Zh).setOther (o' := 3) (.slice k3.a k3.len k3.cap) hne2).setOther (o' := 4) (.int .i64 e.t.f4) hne2))
  have An : Hid (RowIs W2 w.heap.size #[.string e.t.f0, .string e.t.f1, .slice e.h2.a e.h2.len e.h2.cap, .slice e.h3.a e.h3.len e.h3.cap, .int .i64 e.t.f4] 34) := hide (by rw [hW]; exact (((unhide Ah).setOther (o' := 3) (.slice k3.a k3.len k3.cap) hne1).setOther (o' := 4) (.int .i64 e.t.f4) hne1))
  have Bn : Hid (Below w.heap.size w W2) := hide (by rw [hW]; exact (bSt (bSt (unhide Bh) (b := w.heap.size + 1 + 1) (by omega) 3 (.slice k3.a k3.len k3.cap)) (b := w.heap.size + 1 + 1) (by omega) 4 (.int .i64 e.t.f4)))
  have Gn : Hid (w.heap.size + 3 ≤ W2.heap.size) := hide (by rw [hW]; simp only [size_sc]; exact unhide Gh)
  replace K2 := hide (show SqS W2 (w.heap.size + 3) k2 e.t.f2 by rw [hW]; exact (unhide K2).fr (((Fr.below (Below.refl _ v3) _).sets (.slice k3.a k3.len k3.cap) (by omega)).sets (.int .i64 e.t.f4) (by omega)))
  replace K3 := hide (show SqS W2 (w.heap.size + 3) k3 e.t.f3 by rw [hW]; exact (unhide K3).fr (((Fr.below (Below.refl _ v3) _).sets (.slice k3.a k3.len k3.cap) (by omega)).sets (.int .i64 e.t.f4) (by omega)))
  have HW := hide hW.symm
  clear hW Oh Zh Ah Bh Gh
  have Oh := On
  clear On
  have Zh := Zn
  clear Zn
  have Ah := An
  clear An
  have Bh := Bn
  clear Bn
  have Gh := Gn
  clear Gn
  go_upto_region 7 with fail
  rw [unhide HW]
  clear HW k_3 g_3 k_4 g_4 zO zA a_4
  go_step
  refine wpList_load_row rfl 35 _ rfl (w.heap.size + 1 + 1) rfl 35 _ (0, 0) _ (unhide Oh) Tryd.underlying35 rfl (by kernel_rfl) ?_
  refine wpList_store_row rfl 35 _ _ rfl (w.heap.size + 1) #[.string e.t.f0, .string e.t.f1, .slice k2.a k2.len k2.cap, .slice k3.a k3.len k3.cap, .int .i64 e.t.f4] rfl rfl 35 _ (unhide Zh) (by kernel_rfl) rfl (by simp [Value.oneCell']) ?_
  have Z6 := hide (setRow_heap W2 (w.heap.size + 1) _ #[.string e.t.f0, .string e.t.f1, .slice k2.a k2.len k2.cap, .slice k3.a k3.len k3.cap, .int .i64 e.t.f4] _ _ (unhide Zh))
  go_wp2_with fail
  refine bodyPost_ret (v := .agg #[.string e.t.f0, .string e.t.f1, .slice k2.a k2.len k2.cap, .slice k3.a k3.len k3.cap, .int .i64 e.t.f4]) (results_cell_row rfl _ _ (w.heap.size + 1) 35 _ (0, 0) _ rfl (unhide Z6) Tryd.underlying35 rfl (by kernel_rfl)) rfl ⟨⟨⟨e.t, k2, k3⟩, rfl, rfl, ⟨((unhide K2).fr ((Fr.below (Below.refl _ _) _).row _ (by omega))).lo (by omega), ((unhide K3).fr ((Fr.below (Below.refl _ _) _).row _ (by omega))).lo (by omega), trivial⟩⟩, bRow (unhide Bh) (by omega) _⟩

set_option maxRecDepth 20000 in
set_option maxHeartbeats 2000000 in
theorem eqElem_n (e1 e2 : ElemE) (w : World) (ht : e2.t = e1.t) (hn : ElemN e1.t) (m1 : ElemM w 0 e1) (m2 : ElemM w 0 e2) :
    Calls Tryd.prog 17 #[.agg #[.string e1.t.f0, .string e1.t.f1, .slice e1.h2.a e1.h2.len e1.h2.cap, .slice e1.h3.a e1.h3.len e1.h3.cap, .int .i64 e1.t.f4], .agg #[.string e2.t.f0, .string e2.t.f1, .slice e2.h2.a e2.h2.len e2.h2.cap, .slice e2.h3.a e2.h3.len e2.h3.cap, .int .i64 e2.t.f4]] w fun r w' => r = .returned (.bool true) ∧ Below w.heap.size w w' := by
  obtain ⟨t, h2, h3⟩ := e1
  obtain ⟨t', g2, g3⟩ := e2
  simp only at ht
  subst ht
  have q2 := hide (fun w u1 u2 => eqStringS_n h2 g2 t'.f2 w hn.l2 u1 u2)
  have M2 := hide m1.m2
  have P2 := hide m2.m2
  have q3 := hide (fun w u1 u2 => eqStringS_n h3 g3 t'.f3 w hn.l3 u1 u2)
  have M3 := hide m1.m3
  have P3 := hide m2.m3
  have X := hide ((RowIs.new w #[.string t'.f0, .string t'.f1, .slice h2.a h2.len h2.cap, .slice h3.a h3.len h3.cap, .int .i64 t'.f4] 35).keep (bAl (Below.refl _ _) (.cells #[.string t'.f0, .string t'.f1, .slice g2.a g2.len g2.cap, .slice g3.a g3.len g3.cap, .int .i64 t'.f4] 35)))
  have Y : Hid (RowIs ((w.alloc (.cells #[.string t'.f0, .string t'.f1, .slice h2.a h2.len h2.cap, .slice h3.a h3.len h3.cap, .int .i64 t'.f4] 35)).alloc (.cells #[.string t'.f0, .string t'.f1, .slice g2.a g2.len g2.cap, .slice g3.a g3.len g3.cap, .int .i64 t'.f4] 35)) (w.heap.size + 1) #[.string t'.f0, .string t'.f1, .slice g2.a g2.len g2.cap, .slice g3.a g3.len g3.cap, .int .i64 t'.f4] 35) := hide (by have := RowIs.new (w.alloc (.cells #[.string t'.f0, .string t'.f1, .slice h2.a h2.len h2.cap, .slice h3.a h3.len h3.cap, .int .i64 t'.f4] 35)) #[.string t'.f0, .string t'.f1, .slice g2.a g2.len g2.cap, .slice g3.a g3.len g3.cap, .int .i64 t'.f4] 35; simpa using this)
  have B := hide (bAl (bAl (Below.refl w.heap.size w) (.cells #[.string t'.f0, .string t'.f1, .slice h2.a h2.len h2.cap, .slice h3.a h3.len h3.cap, .int .i64 t'.f4] 35)) (.cells #[.string t'.f0, .string t'.f1, .slice g2.a g2.len g2.cap, .slice g3.a g3.len g3.cap, .int .i64 t'.f4] 35))
  clear m1 m2 hn
  go_enter Tryd.func17, Tryd.ntmps17
  go_wp2_with fail
  refine (unhide q2 _ ((unhide M2).keep (unhide B)) ((unhide P2).keep (unhide B))).mono ?_
  rintro r w1 ⟨rfl, hb1⟩
  replace X := hide ((unhide X).keep hb1)
  replace Y := hide ((unhide Y).keep hb1)
  replace B := hide (bTr (unhide B) hb1)
  clear hb1 
  have c3 := (unhide X).at (o := 3) (v := .slice h3.a h3.len h3.cap) rfl
  have d3 := (unhide Y).at (o := 3) (v := .slice g3.a g3.len g3.cap) rfl
  go_wp2_with fail
  refine (unhide q3 _ ((unhide M3).keep (unhide B)) ((unhide P3).keep (unhide B))).mono ?_
  rintro r w2 ⟨rfl, hb1⟩
  replace X := hide ((unhide X).keep hb1)
  replace Y := hide ((unhide Y).keep hb1)
  replace B := hide (bTr (unhide B) hb1)
  clear hb1 c3 d3
  have c4 := (unhide X).at (o := 4) (v := .int .i64 t'.f4) rfl
  have d4 := (unhide Y).at (o := 4) (v := .int .i64 t'.f4) rfl
  go_wp2_with fail
  go_ret
  exact ⟨rfl, unhide B⟩

set_option maxRecDepth 20000 in
set_option maxHeartbeats 2000000 in
theorem szElemS_n (h : Hd) (xs : List ElemT) (left : Int) (w : World) (h0 : 0 ≤ left) (h1 : left ≤ 1048576) (ho : ∀ q ∈ xs, ElemN q) (hl : xs.length ≤ maxLen) (hs : SqElem w 0 h xs) :
    Calls Tryd.prog 5 #[.slice h.a h.len h.cap, .int .i64 left] w fun e w' => (∃ m : Int, -1 ≤ m ∧ m ≤ left ∧ (0 ≤ m → xs.length ≤ 1048576 ∧ ∀ q ∈ xs, ElemSm q) ∧ e = .returned (.int .i64 m)) ∧ Below w.heap.size w w' := by
  obtain ⟨l, rfl, hs⟩ := hs
  have ho' : ∀ q ∈ l, ElemN q.t := fun q hq => ho _ (List.mem_map_of_mem hq)
  have HSM : Hid ((∀ i (h : i < l.length), ElemSm l[i].t) → ∀ q ∈ l.map (·.t), ElemSm q) := hide (fun g q hq => by
    obtain ⟨e, he, rfl⟩ := List.mem_map.1 hq
    obtain ⟨i, hi, rfl⟩ := List.getElem_of_mem he
    exact g i hi)
  have hll : (l.map (·.t)).length = l.length := by simp
  rw [hll] at hl ⊢
  clear ho hll
  unfold maxLen at hl
  have hle := hs.1
  obtain ⟨a, len, cap⟩ := h
  simp only at hle
  by_cases hlen : left < (len : Int)
  · clear hs ho' HSM
    go_enter Tryd.func5, Tryd.ntmps5
    go_wp2
    go_ret
    exact ⟨⟨-1, by omega, by omega, by omega, rfl⟩, Below.refl _ _⟩
  have d1 : decide (left - (len : Int) < 0) = false := by simp; omega
  have HS := hide hs
  have HO := hide ho'
  clear hs ho'
  go_enter Tryd.func5, Tryd.ntmps5
  go_wp2
  go_loopw [1, 5] (fun m i w' => ∃ (k : Nat) (q : Int), k ≤ len ∧ 0 ≤ q ∧ q ≤ left ∧ i = .int .i64 k ∧ m = .int .i64 q ∧ Hid (∀ i (h : i < l.length), i < k → ElemSm l[i].t) ∧ Below w.heap.size w w') (fun _ i _ => len - (Go.RowKit.intOf i).toNat)
  case atStart => exact ⟨0, _, Nat.zero_le _, by omega, by omega, rfl, rfl, hide (fun i _ h => absurd h (Nat.not_lt_zero _)), Below.refl _ _⟩
  case round =>
    obtain ⟨k, q, hk, hq1, hq2, rfl, rfl, hall, hbel⟩ := hrel
    by_cases hlt : k < len
    · obtain ⟨b, off, e0, hrow⟩ := ((unhide HS).keep hbel).at hlt
      simp only at e0
      subst e0
      have hk' : k < l.length := by omega
      have c0 := hrow.c0 k hk'
      have c1 := hrow.c1 k hk'
      have c2 := hrow.c2 k hk'
      have c3 := hrow.c3 k hk'
      have c4 := hrow.c4 k hk'
      have hz := hide (fun q (w : World) h0 h1 hb => szElem_n l[k] q w h0 h1 (unhide HO _ (List.getElem_mem hk')) (((unhide HS).2.2 _ (List.getElem_mem hk')).keep hb))
      have hst := hide (show ElemSm l[k].t → ∀ i (h : i < l.length), i < k + 1 → ElemSm l[i].t from fun hle i hi hik => by
        rcases Nat.lt_or_ge i k with h | h
        · exact unhide hall i hi h
        · obtain rfl : i = k := by omega
          exact hle)
      clear hrow
      generalize l[k] = A at hz hst c0 c1 c2 c3 c4
      go_wp2_with fail
      refine (unhide hz _ _ (by omega) (by omega) hbel).mono ?_
      rintro e w1 ⟨⟨m, hm1, hm2, hm3, rfl⟩, hb1⟩
      by_cases hm : m < 0
      · go_wp2_with fail
        go_ret
        exact ⟨⟨-1, by omega, by omega, by omega, rfl⟩, bTr hbel hb1⟩
      · have hst2 := hide (unhide hst (hm3 (by omega)))
        go_wp2_with fail
        exact ⟨⟨k + 1, m, by omega, by omega, by omega, by go_num, rfl, hst2, bTr hbel hb1⟩, by simp [Go.RowKit.intOf]; omega⟩
    · go_wp2_with fail
      go_ret
      exact ⟨⟨q, by omega, by omega, fun _ => ⟨by omega, unhide HSM fun i hi => unhide hall i hi (by omega)⟩, rfl⟩, hbel⟩

theorem info_Elem : (Tryd.prog.info? 35).map (fun i => (i.zero, i.size, i.bytes)) = some (some (.agg #[.string ByteArray.empty, .string ByteArray.empty, .slice none 0 0, .slice none 0 0, .int .i64 0]), 5, 88) := by kernel_rfl
theorem make_Elem (len : Nat) (w : World) (h : len ≤ 1048576) : ∃ w1 C, (Instr.makeSlice 25 (.int .i64 (len : Int)) (.int .i64 (len : Int))).run Tryd.prog w = .ok (.slice (some ⟨w.heap.size, 0, none⟩) len len) w1 ∧
    Below w.heap.size w w1 ∧ RowIs w1 w.heap.size C 35 ∧ C.size = len * 5 := by
  obtain ⟨i, h1, h2⟩ := Option.map_eq_some_iff.1 info_Elem
  simp only [Prod.mk.injEq] at h2
  obtain ⟨hz, hsz, hby⟩ := h2
  have hr := run_make (P := Tryd.prog) w 25 35 i _ Tryd.underlying25 h1 hz .i64 .i64 (len : Int) (len : Int) (by omega) (by omega) (by rw [hby]; omega) (by omega)
  rw [Int.toNat_natCast, hsz] at hr
  exact ⟨_, _, hr, bAl (Below.refl _ _) _, RowIs.new _ _ _, size_madeCells _ _⟩
def FilledElem (C : Array Value) (l : List ElemE) : Prop := ∀ i (h : i < l.length), C[i * 5]? = some (.string l[i].t.f0) ∧ C[i * 5 + 1]? = some (.string l[i].t.f1) ∧ C[i * 5 + 2]? = some (.slice l[i].h2.a l[i].h2.len l[i].h2.cap) ∧ C[i * 5 + 3]? = some (.slice l[i].h3.a l[i].h3.len l[i].h3.cap) ∧ C[i * 5 + 4]? = some (.int .i64 l[i].t.f4)
def setElem (C : Array Value) (k : Nat) (x : ElemE) : Array Value := (((((C.setIfInBounds (k * 5) (.string x.t.f0)).setIfInBounds (k * 5 + 1) (.string x.t.f1)).setIfInBounds (k * 5 + 2) (.slice x.h2.a x.h2.len x.h2.cap)).setIfInBounds (k * 5 + 3) (.slice x.h3.a x.h3.len x.h3.cap)).setIfInBounds (k * 5 + 4) (.int .i64 x.t.f4))
theorem size_setElem (C : Array Value) (k : Nat) (x : ElemE) : (setElem C k x).size = C.size := by simp [setElem]
theorem FilledElem.snoc {C : Array Value} {l : List ElemE} (h : FilledElem C l) (x : ElemE) (hC : l.length * 5 + 5 ≤ C.size) : FilledElem (setElem C l.length x) (l ++ [x]) := by
  intro i hi
  unfold setElem
  by_cases e : i = l.length
  · subst e
    have s0 : l.length * 5 < C.size := by omega
    have s1 : l.length * 5 + 1 < C.size := by omega
    have s2 : l.length * 5 + 2 < C.size := by omega
    have s3 : l.length * 5 + 3 < C.size := by omega
    have s4 : l.length * 5 + 4 < C.size := by omega
    simp [s0, s1, s2, s3, s4]
  · have hi' : i < l.length := by simp at hi; omega
    have := h i hi'
    rw [List.getElem_append_left hi']
    simp only [Array.getElem?_setIfInBounds]
    repeat rw [if_neg (by omega)]
    exact this
theorem FilledElem.row {w : World} {b : Nat} {C : Array Value} {T : TypeId} {l : List ElemE} (h : FilledElem C l) (hr : RowIs w b C T) : ElemRow w b 0 l :=
  ⟨hr.lt, fun i hi => by rw [Nat.zero_add, hr.cell]; exact (h i hi).1, fun i hi => by rw [Nat.zero_add, hr.cell]; exact (h i hi).2.1, fun i hi => by rw [Nat.zero_add, hr.cell]; exact (h i hi).2.2.1, fun i hi => by rw [Nat.zero_add, hr.cell]; exact (h i hi).2.2.2.1, fun i hi => by rw [Nat.zero_add, hr.cell]; exact (h i hi).2.2.2.2⟩
set_option maxRecDepth 100000 in
set_option maxHeartbeats 4000000 in
theorem toElemS_n (h : Hd) (xs : List ElemT) (w : World) (hl : xs.length ≤ 1048576 ∧ ∀ q ∈ xs, ElemSm q) (hs : SqElem w 0 h xs) :
    Calls Tryd.prog 7 #[.slice h.a h.len h.cap] w fun e w' => (∃ h' : Hd, e = .returned (.slice h'.a h'.len h'.cap) ∧ SqElem w' w.heap.size h' xs) ∧ Below w.heap.size w w' := by
  obtain ⟨l, rfl, hs⟩ := hs
  have hsm : ∀ q ∈ l, ElemSm q.t := fun q hq => hl.2 _ (List.mem_map_of_mem hq)
  have hll : l.length ≤ 1048576 := by have := hl.1; simpa using this
  clear hl
  have hle := hs.1
  obtain ⟨a, len, cap⟩ := h
  simp only at hle
  obtain ⟨w1, C1, hrun, hb1, hr1, hC1⟩ := make_Elem len w (by omega)
  have HS := hide hs
  have HM := hide hsm
  have HB1 := hide hb1
  have HR1 := hide hr1
  have HL := hide hle
  clear hs hb1 hr1 hsm hle
  go_enter Tryd.func7, Tryd.ntmps7
  go_wp2
  clear hrun
  go_loopw [4] (fun i w' => ∃ (k : Nat) (C : Array Value) (l' : List ElemE), k ≤ len ∧ i = .int .i64 k ∧ Hid (l'.length = k ∧ l'.map (·.t) = (l.map (·.t)).take k) ∧ Hid (Below w.heap.size w w') ∧ Hid (RowIs w' w.heap.size C 35) ∧ Hid (C.size = len * 5) ∧ Hid (FilledElem C l') ∧ Hid (∀ e ∈ l', ElemM w' (w.heap.size + 1) e)) (fun i _ => len - (Go.RowKit.intOf i).toNat)
  case atStart => exact ⟨0, C1, [], Nat.zero_le _, rfl, hide ⟨rfl, by simp⟩, HB1, HR1, hide hC1, hide (fun i h => absurd h (Nat.not_lt_zero _)), hide (fun e he => by cases he)⟩
  case round =>
    obtain ⟨k, C, l', hk, rfl, hl', hb, hr, hC, hF, hMs⟩ := hrel
    by_cases hlt : k < len
    · obtain ⟨b, off, e0, hrow⟩ := ((unhide HS).keep (unhide hb)).at hlt
      simp only at e0
      subst e0
      have hk' : k < l.length := by have := unhide HL; omega
      have c0 := hrow.c0 k hk'
      have c1 := hrow.c1 k hk'
      have c2 := hrow.c2 k hk'
      have c3 := hrow.c3 k hk'
      have c4 := hrow.c4 k hk'
      have ht := hide (fun (w : World) hb => toElem_n l[k] w (unhide HM _ (List.getElem_mem hk')) (((unhide HS).2.2 _ (List.getElem_mem hk')).keep hb))
      have htk : Hid (∀ A' : ElemE, A'.t = l[k].t → (l' ++ [A']).length = k + 1 ∧ (l' ++ [A']).map (·.t) = (l.map (·.t)).take (k + 1)) := hide (fun A' e => by
        refine ⟨by simp [(unhide hl').1], ?_⟩
        rw [List.map_append, (unhide hl').2, List.take_add_one]
        simp [hk', e])
      clear hrow hC1
      generalize l[k] = A at ht htk c0 c1 c2 c3 c4
      go_wp2_with fail
      refine (unhide ht _ (unhide hb)).mono ?_
      rintro e w2 ⟨⟨A', eA, rfl, hMA⟩, hb2⟩
      have zb : w.heap.size < wr.heap.size := (unhide hr).lt
      have hMA' := hide (hMA.lo (lo' := w.heap.size + 1) zb)
      replace hr := hide ((unhide hr).keep hb2)
      replace hb := hide (bTr (unhide hb) hb2)
      replace hMs := hide (fun e he => (unhide hMs e he).keep hb2)
      have hF' := hide ((unhide hF).snoc A' (by rw [unhide hC, (unhide hl').1]; omega))
      have hl2 := hide (unhide htk A' eA)
      have el : l'.length = k := (unhide hl').1
      rw [el] at hF'
      have s9 : k * 5 + 4 < C.size := by rw [unhide hC]; omega
      obtain ⟨D0, d0⟩ : ∃ D, C[k * 5]? = some D := ⟨_, Array.getElem?_eq_getElem (by omega)⟩
      have g0 := (unhide hr).at d0
      have y0 := (unhide hr).froz (k * 5)
      clear d0
      obtain ⟨D1, d1⟩ : ∃ D, C[k * 5 + 1]? = some D := ⟨_, Array.getElem?_eq_getElem (by omega)⟩
      have g1 := (unhide hr).at d1
      have y1 := (unhide hr).froz (k * 5 + 1)
      clear d1
      obtain ⟨D2, d2⟩ : ∃ D, C[k * 5 + 2]? = some D := ⟨_, Array.getElem?_eq_getElem (by omega)⟩
      have g2 := (unhide hr).at d2
      have y2 := (unhide hr).froz (k * 5 + 2)
      clear d2
      obtain ⟨D3, d3⟩ : ∃ D, C[k * 5 + 3]? = some D := ⟨_, Array.getElem?_eq_getElem (by omega)⟩
      have g3 := (unhide hr).at d3
      have y3 := (unhide hr).froz (k * 5 + 3)
      clear d3
      obtain ⟨D4, d4⟩ : ∃ D, C[k * 5 + 4]? = some D := ⟨_, Array.getElem?_eq_getElem (by omega)⟩
      have g4 := (unhide hr).at d4
      have y4 := (unhide hr).froz (k * 5 + 4)
      clear d4
      clear c0 c1 c2 c3 c4 hb2 hMA eA htk hF hl' ht
      go_wp2_with fail
      refine ⟨⟨k + 1, setElem C k A', l' ++ [A'], by omega, by go_num, hl2, hide ?_, hide ?_, hide (by rw [size_setElem]; exact unhide hC), hF', hide ?_⟩, by simp [Go.RowKit.intOf]; omega⟩
      · repeat refine bSt ?_ (Nat.le_refl _) _ _
        exact unhide hb
      · exact (((((unhide hr).set _ _).set _ _).set _ _).set _ _).set _ _
      · have fr : Fr (w.heap.size + 1) w2 _ := ((((((Fr.below (Below.refl _ w2) _).sets (o' := k * 5) (.string A'.t.f0) (Nat.lt_succ_self _)).sets (o' := k * 5 + 1) (.string A'.t.f1) (Nat.lt_succ_self _)).sets (o' := k * 5 + 2) (.slice A'.h2.a A'.h2.len A'.h2.cap) (Nat.lt_succ_self _)).sets (o' := k * 5 + 3) (.slice A'.h3.a A'.h3.len A'.h3.cap) (Nat.lt_succ_self _)).sets (o' := k * 5 + 4) (.int .i64 A'.t.f4) (Nat.lt_succ_self _))
        intro e he
        rcases List.mem_append.1 he with h | h
        · exact (unhide hMs e h).fr fr
        · obtain rfl : e = A' := by simpa using h
          exact (unhide hMA').fr fr
    · go_wp2_with fail
      go_ret
      have hle := unhide HL
      have e : k = l.length := by omega
      have el : l'.length = k := (unhide hl').1
      exact ⟨⟨⟨some ⟨w.heap.size, 0, none⟩, len, len⟩, rfl, l', by rw [(unhide hl').2, e, List.take_of_length_le (by simp)], by simp only; omega, .inr ⟨_, _, rfl, Lo.own (fun o => (unhide hr).froz o), (unhide hF).row (unhide hr)⟩, fun e he => (unhide hMs e he).lo (Nat.le_succ _)⟩, unhide hb⟩

set_option maxRecDepth 20000 in
set_option maxHeartbeats 4000000 in
theorem eqElemS_n (h g : Hd) (xs : List ElemT) (w : World) (hl : xs.length ≤ maxLen) (hn : ∀ q ∈ xs, ElemN q) (h1 : SqElem w 0 h xs) (h2 : SqElem w 0 g xs) :
    Calls Tryd.prog 9 #[.slice h.a h.len h.cap, .slice g.a g.len g.cap] w fun e w' => e = .returned (.bool true) ∧ Below w.heap.size w w' := by
  obtain ⟨l, rfl, h1⟩ := h1
  obtain ⟨m, em, h2⟩ := h2
  have hn' : ∀ q ∈ l, ElemN q.t := fun q hq => hn _ (List.mem_map_of_mem hq)
  have elm : m.length = l.length := by have := congrArg List.length em; simpa using this
  have het : ∀ i (hi : i < l.length), (m[i]'(by omega)).t = l[i].t := fun i hi => by
    have := List.getElem_of_eq em (i := i) (by simp; omega)
    simpa using this
  have hle := h1.1
  have hge := h2.1
  have hlm : l.length ≤ maxLen := by simpa using hl
  unfold maxLen at hlm
  obtain ⟨a1, len1, c1⟩ := h
  obtain ⟨a2, len2, c2⟩ := g
  simp only at hle hge
  obtain rfl : len1 = len2 := by omega
  have H1 := hide h1
  have H2 := hide h2
  have HN := hide hn'
  have HT := hide het
  clear h1 h2 hn hn' het em hl
  go_enter Tryd.func9, Tryd.ntmps9
  go_wp2
  go_loopw [5] (fun i w' => ∃ k : Nat, k ≤ len1 ∧ i = .int .i64 k ∧ Hid (Below w.heap.size w w')) (fun i _ => len1 - (Go.RowKit.intOf i).toNat)
  case atStart => exact ⟨0, Nat.zero_le _, rfl, hide (Below.refl _ _)⟩
  case round =>
    obtain ⟨k, hk, rfl, hbel⟩ := hrel
    by_cases hlt : k < len1
    · have hk' : k < l.length := by omega
      have hk2 : k < m.length := by omega
      obtain ⟨b, off, e0, r1⟩ := ((unhide H1).keep (unhide hbel)).at hlt
      obtain ⟨b', off', e1, r2⟩ := ((unhide H2).keep (unhide hbel)).at hlt
      simp only at e0 e1
      subst e0 e1
      have p0 := r1.c0 k hk'
      have p1 := r1.c1 k hk'
      have p2 := r1.c2 k hk'
      have p3 := r1.c3 k hk'
      have p4 := r1.c4 k hk'
      have q0 := r2.c0 k hk2
      have q1 := r2.c1 k hk2
      have q2 := r2.c2 k hk2
      have q3 := r2.c3 k hk2
      have q4 := r2.c4 k hk2
      have z1 := r1.z
      have z2 := r2.z
      have Q := hide (fun (q : Kept wr) => eqElem_n l[k] m[k] q.w (unhide HT k hk') (unhide HN _ (List.getElem_mem hk')) (((unhide H1).2.2 _ (List.getElem_mem hk')).keep (bTr (unhide hbel) q.h)) (((unhide H2).2.2 _ (List.getElem_mem hk2)).keep (bTr (unhide hbel) q.h)))
      clear r1 r2
      generalize l[k] = A at Q p0 p1 p2 p3 p4
      generalize m[k] = A' at Q q0 q1 q2 q3 q4
      have ne : Nonempty (Kept wr) := ⟨⟨wr, Below.refl _ _⟩⟩
      have x0 := kept_cell z1 p0
      have x1 := kept_cell z1 p1
      have x2 := kept_cell z1 p2
      have x3 := kept_cell z1 p3
      have x4 := kept_cell z1 p4
      have y0 := kept_cell z2 q0
      have y1 := kept_cell z2 q1
      have y2 := kept_cell z2 q2
      have y3 := kept_cell z2 q3
      have y4 := kept_cell z2 q4
      have i0 : (0 : Int) ≤ (k : Int) := by omega
      have i1 : (k : Int) < (len1 : Int) := by omega
      go_wp2_with fail
      refine wp_region_kept (by kernel_rfl) (by kernel_rfl) ?_
      repeat (first
        | go_big_quiet_step ((go_at_call 17; exact kept_call (unhide Q _)))
        | quiet_step ((go_at_call 17; exact kept_call (unhide Q _))))
      refine wpQuiet_nil ?_
      rintro _ ⟨q, rfl⟩
      clear ne x0 x1 x2 x3 x4 y0 y1 y2 y3 y4
      obtain ⟨w3, hb3⟩ := q
      have HB3 := hide (bTr (unhide hbel) hb3)
      go_wp2_with fail
      exact ⟨⟨k + 1, by omega, by go_num, HB3⟩, by simp [Go.RowKit.intOf]; omega⟩
    · go_wp2_with fail
      go_ret
      exact ⟨rfl, unhide hbel⟩

theorem listcElem {α : Type} {l : List α} (h : l.length = 5) : ∃ a0 a1 a2 a3 a4, l = [a0, a1, a2, a3, a4] := by
  match l, h with
  | [a0, a1, a2, a3, a4], _ => exact ⟨a0, a1, a2, a3, a4, rfl⟩
theorem listfElem {α : Type} {l : List α} (h : l.length = 5) : ∃ a0 a1 a2 a3 a4, l = [a0, a1, a2, a3, a4] := by
  match l, h with
  | [a0, a1, a2, a3, a4], _ => exact ⟨a0, a1, a2, a3, a4, rfl⟩
section
variable {H : Type} {enc : TypeId × Value → H} {w : World} {base : Nat} {sp : Nat → Bool} {held : Bool}
set_option maxRecDepth 100000 in
theorem read_Elem {n : Nat} {cs : List Value} {x : DataW H × List MemPlace} (h : DataW.trod enc Tryd.prog w base sp held n 34 cs = some x) : ∃ e : ElemE, cs = [.string e.t.f0, .string e.t.f1, .slice e.h2.a e.h2.len e.h2.cap, .slice e.h3.a e.h3.len e.h3.cap, .int .i64 e.t.f4] ∧ ElemN e.t ∧ ElemM w 0 e := by
  obtain ⟨xs, m, rfl, _, hlen, hx, hf⟩ := DataW.trod_struct Tryd.underlying34 h
  have hc : Tryd.prog.cellsOf 34 = 5 := by kernel_rfl
  have ky0 : Tryd.prog.cellsOf 32 = 1 := by kernel_rfl
  have ky1 : Tryd.prog.cellsOf 3 = 1 := by kernel_rfl
  have ky2 : Tryd.prog.cellsOf 9 = 1 := by kernel_rfl
  obtain ⟨c0, c1, c2, c3, c4, rfl⟩ := listcElem (hlen.trans hc)
  obtain ⟨x0, x1, x2, x3, x4, rfl⟩ := listfElem hx
  have h0 : DataW.trod enc Tryd.prog w base sp held m 9 [c0] = some x0 := by have := hf 0 _ rfl; simpa [ky0, ky1, ky2] using this
  obtain ⟨y0, e0, _, ok0⟩ := DataW.trod_string Tryd.underlying9 h0
  simp at e0
  subst e0
  have h1 : DataW.trod enc Tryd.prog w base sp held m 9 [c1] = some x1 := by have := hf 1 _ rfl; simpa [ky0, ky1, ky2] using this
  obtain ⟨y1, e1, _, ok1⟩ := DataW.trod_string Tryd.underlying9 h1
  simp at e1
  subst e1
  have h2 : DataW.trod enc Tryd.prog w base sp held m 32 [c2] = some x2 := by have := hf 2 _ rfl; simpa [ky0, ky1, ky2] using this
  have g2 : ∃ a l c, c2 = .slice a l c := by
    rcases Go.Deep.open_slice Tryd.underlying32 h2 with ⟨hcs, _⟩ | ⟨a', len', cap', _, _, _, _, hcs, _⟩
    · simp at hcs; exact ⟨_, _, _, hcs⟩
    · simp at hcs; exact ⟨_, _, _, hcs⟩
  obtain ⟨a2, b2, d2, rfl⟩ := g2
  obtain ⟨y2, s2, ok2, ml2⟩ := readsS h2
  have h3 : DataW.trod enc Tryd.prog w base sp held m 32 [c3] = some x3 := by have := hf 3 _ rfl; simpa [ky0, ky1, ky2] using this
  have g3 : ∃ a l c, c3 = .slice a l c := by
    rcases Go.Deep.open_slice Tryd.underlying32 h3 with ⟨hcs, _⟩ | ⟨a', len', cap', _, _, _, _, hcs, _⟩
    · simp at hcs; exact ⟨_, _, _, hcs⟩
    · simp at hcs; exact ⟨_, _, _, hcs⟩
  obtain ⟨a3, b3, d3, rfl⟩ := g3
  obtain ⟨y3, s3, ok3, ml3⟩ := readsS h3
  have h4 : DataW.trod enc Tryd.prog w base sp held m 3 [c4] = some x4 := by have := hf 4 _ rfl; simpa [ky0, ky1, ky2] using this
  obtain ⟨y4, e4, _, _⟩ := DataW.trod_int Tryd.underlying3 h4
  simp at e4
  subst e4
  exact ⟨⟨⟨y0, y1, y2, y3, y4⟩, ⟨a2, b2, d2⟩, ⟨a3, b3, d3⟩⟩, rfl, ⟨ok0, ok1, ok2, ml2, ok3, ml3, trivial⟩, ⟨s2, s3, trivial⟩⟩
set_option maxRecDepth 100000 in
theorem came_Elem {r : Reach} {b0 : Nat} {v0 : Value} {d : DataW H} {q : List MemPlace} (hv : Value.okWide Tryd.prog w r b0 34 v0) (h : DataW.Trod enc Tryd.prog w base sp held 34 v0 d q) : ∃ e : ElemE, v0 = .agg #[.string e.t.f0, .string e.t.f1, .slice e.h2.a e.h2.len e.h2.cap, .slice e.h3.a e.h3.len e.h3.cap, .int .i64 e.t.f4] ∧ ElemN e.t ∧ ElemM w 0 e := by
  obtain ⟨cs, rfl, _⟩ := okWide_struct Tryd.underlying34 hv
  obtain ⟨fuel, hf0⟩ := h
  obtain ⟨e, h1, h2, h3⟩ := read_Elem hf0
  refine ⟨e, ?_, h2, h3⟩
  obtain ⟨l⟩ := cs
  simp only [Value.cells] at h1
  rw [h1]
set_option maxRecDepth 100000 in
theorem readsElem {n len cap : Nat} {a : Option Addr} {x : DataW H × List MemPlace} (h : DataW.trod enc Tryd.prog w base sp held n 22 [.slice a len cap] = some x) :
    ∃ l : List ElemT, SqElem w 0 ⟨a, len, cap⟩ l ∧ (∀ q ∈ l, ElemN q) ∧ l.length ≤ maxLen := by
  have hc : Tryd.prog.cellsOf 34 = 5 := by kernel_rfl
  rcases Go.Deep.open_slice Tryd.underlying22 h with ⟨hcs, _⟩ | ⟨a', len', cap', m, n', D, Pl, hcs, _, hl, hm, hmm, _, hel⟩
  · simp at hcs
    obtain ⟨rfl, rfl, rfl⟩ := hcs
    exact ⟨[], ⟨[], rfl, rfl, .inl rfl, by simp⟩, by simp, Nat.zero_le _⟩
  · simp at hcs
    obtain ⟨rfl, rfl, rfl⟩ := hcs
    have hlm : len ≤ m := by rw [hmm]; split <;> omega
    by_cases h0 : len = 0
    · subst h0; exact ⟨[], ⟨[], rfl, rfl, .inl rfl, by simp⟩, by simp, Nat.zero_le _⟩
    have hspot : a'.spot = none := by
      obtain ⟨cs', h1, h2⟩ := hel 0 (by omega)
      rw [hc] at h1
      obtain ⟨A, rfl, _⟩ := read_Elem h2
      have e0 := (World.cells?_some h1).2.2 0 (by omega)
      simp [Addr.add] at e0
      exact World.cell?_spot e0
    obtain ⟨b, off, spot⟩ := a'
    simp only at hspot
    subst hspot
    have hA : ∀ i, i < len → ∃ A : ElemE, ElemN A.t ∧ ElemM w 0 A ∧ (w.cell? ⟨b, off + i * 5, none⟩ = some (.string A.t.f0) ∧ w.cell? ⟨b, off + i * 5 + 1, none⟩ = some (.string A.t.f1) ∧ w.cell? ⟨b, off + i * 5 + 2, none⟩ = some (.slice A.h2.a A.h2.len A.h2.cap) ∧ w.cell? ⟨b, off + i * 5 + 3, none⟩ = some (.slice A.h3.a A.h3.len A.h3.cap) ∧ w.cell? ⟨b, off + i * 5 + 4, none⟩ = some (.int .i64 A.t.f4)) ∧ b < w.heap.size := by
      intro i hi
      obtain ⟨cs', h1, h2⟩ := hel i (by omega)
      rw [hc, addr_add] at h1
      obtain ⟨A, rfl, hok, hM⟩ := read_Elem h2
      have h3 := (World.cells?_some h1).2.2
      have e0 := h3 0 (by omega)
      have e1 := h3 1 (by omega)
      have e2 := h3 2 (by omega)
      have e3 := h3 3 (by omega)
      have e4 := h3 4 (by omega)
      rw [addr_add] at e0 e1 e2 e3 e4
      exact ⟨A, hok, hM, ⟨e0, e1, e2, e3, e4⟩, World.block_lt_of_cell? w ⟨b, off + i * 5 + 0, none⟩ e0⟩
    obtain ⟨f, hf⟩ := @Go.Deep.choose_lt ElemE ⟨⟨⟨⟨#[]⟩, ⟨#[]⟩, [], [], 0⟩, ⟨none, 0, 0⟩, ⟨none, 0, 0⟩⟩⟩ len (fun i A => ElemN A.t ∧ ElemM w 0 A ∧ (w.cell? ⟨b, off + i * 5, none⟩ = some (.string A.t.f0) ∧ w.cell? ⟨b, off + i * 5 + 1, none⟩ = some (.string A.t.f1) ∧ w.cell? ⟨b, off + i * 5 + 2, none⟩ = some (.slice A.h2.a A.h2.len A.h2.cap) ∧ w.cell? ⟨b, off + i * 5 + 3, none⟩ = some (.slice A.h3.a A.h3.len A.h3.cap) ∧ w.cell? ⟨b, off + i * 5 + 4, none⟩ = some (.int .i64 A.t.f4)) ∧ b < w.heap.size) hA
    refine ⟨((List.range len).map f).map (·.t), ⟨(List.range len).map f, rfl, by simp, .inr ⟨b, off, rfl, Lo.zero _ _, (hf 0 (by omega)).2.2.2, fun i hi => ?_, fun i hi => ?_, fun i hi => ?_, fun i hi => ?_, fun i hi => ?_⟩, ?_⟩, ?_, by simp; omega⟩
    · simp at hi
      have := (hf i hi).2.2.1.1
      simpa using this
    · simp at hi
      have := (hf i hi).2.2.1.2.1
      simpa using this
    · simp at hi
      have := (hf i hi).2.2.1.2.2.1
      simpa using this
    · simp at hi
      have := (hf i hi).2.2.1.2.2.2.1
      simpa using this
    · simp at hi
      have := (hf i hi).2.2.1.2.2.2.2
      simpa using this
    · intro q hq
      simp at hq
      obtain ⟨i, hi, rfl⟩ := hq
      exact (hf i hi).2.1
    · intro q hq
      simp at hq
      obtain ⟨i, hi, rfl⟩ := hq
      exact (hf i hi).1
set_option maxRecDepth 100000 in
/-- A slice that came in. -/
theorem cames_Elem {r : Reach} {b0 : Nat} {v0 : Value} {d : DataW H} {q : List MemPlace} (hv : Value.okWide Tryd.prog w r b0 22 v0) (h : DataW.Trod enc Tryd.prog w base sp held 22 v0 d q) :
    ∃ (h : Hd) (xs : List ElemT), v0 = .slice h.a h.len h.cap ∧ SqElem w 0 h xs ∧ (∀ q ∈ xs, ElemN q) ∧ xs.length ≤ maxLen := by
  obtain ⟨a, len, cap, rfl⟩ := okWide_slice Tryd.underlying22 hv
  obtain ⟨fuel, hf0⟩ := h
  obtain ⟨l, h1, h2, h3⟩ := readsElem hf0
  exact ⟨⟨a, len, cap⟩, l, rfl, h1, h2, h3⟩
end
end Go.Proofs.YtdhpfhpegaekpaaDoor.V
