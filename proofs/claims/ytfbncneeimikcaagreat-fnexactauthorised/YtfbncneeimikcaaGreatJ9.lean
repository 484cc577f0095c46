/- OAp, ORs, one behind the other. -/
import Derived.Test.YtfbncneeimikcaaGreatJ8
/- impl.Apart in memory, by what it holds: sized, copied, held against itself, read. -/
namespace Go.Proofs.YtfbncneeimikcaaGreat.V
set_option linter.unusedSimpArgs false
open Go.ChangeShapes Go.WideShapes Go.RowKit

structure ApartT where
  f0 : List ByteArray
  f1 : Int
  f2 : Bool
structure ApartE where
  t : ApartT
  h0 : Hd
structure ApartN (x : ApartT) : Prop where
  o0 : ∀ q ∈ x.f0, ByteArray.size q ≤ maxLen
  l0 : x.f0.length ≤ maxLen
  tt : True
structure ApartSm (x : ApartT) : Prop where
  l0 : x.f0.length ≤ 1048576
  tt : True
structure ApartM (w : World) (lo : Nat) (e : ApartE) : Prop where
  m0 : SqS w lo e.h0 e.t.f0
  tt : True
theorem ApartM.fr {w w1 : World} {lo : Nat} {e : ApartE} (h : ApartM w lo e) (hf : Fr lo w w1) : ApartM w1 lo e := ⟨h.m0.fr hf, h.tt⟩
theorem ApartM.lo {w : World} {lo lo' : Nat} {e : ApartE} (h : ApartM w lo e) (hl : lo' ≤ lo) : ApartM w lo' e := ⟨h.m0.lo hl, h.tt⟩
theorem ApartM.keep {w w1 : World} {lo : Nat} {e : ApartE} (h : ApartM w lo e) (hb : Below w.heap.size w w1) : ApartM w1 lo e := h.fr (Fr.below hb lo)
structure ApartRow (w : World) (b off : Nat) (l : List ApartE) : Prop where
  z : b < w.heap.size
  c0 : ∀ i (h : i < l.length), w.cell? ⟨b, off + i * 3, none⟩ = some (.slice l[i].h0.a l[i].h0.len l[i].h0.cap)
  c1 : ∀ i (h : i < l.length), w.cell? ⟨b, off + i * 3 + 1, none⟩ = some (.int .i64 l[i].t.f1)
  c2 : ∀ i (h : i < l.length), w.cell? ⟨b, off + i * 3 + 2, none⟩ = some (.bool l[i].t.f2)
theorem ApartRow.fr {w w1 : World} {lo b off : Nat} {l : List ApartE} (h : ApartRow w b off l) (hf : Fr lo w w1) (hb : lo ≤ b) : ApartRow w1 b off l :=
  ⟨Nat.lt_of_lt_of_le h.z hf.size, fun i hi => hf.cell _ _ _ hb (h.c0 i hi), fun i hi => hf.cell _ _ _ hb (h.c1 i hi), fun i hi => hf.cell _ _ _ hb (h.c2 i hi)⟩
/-- A slice of these: the rows, and what each of them holds. -/
def SqApartE (w : World) (lo : Nat) (h : Hd) (l : List ApartE) : Prop := h.len = l.length ∧ (l = [] ∨ ∃ b off, h.a = some ⟨b, off, none⟩ ∧ Lo w lo b ∧ ApartRow w b off l) ∧ ∀ e ∈ l, ApartM w lo e
theorem SqApartE.fr {w w1 : World} {lo : Nat} {h : Hd} {l : List ApartE} (s : SqApartE w lo h l) (hf : Fr lo w w1) : SqApartE w1 lo h l :=
  ⟨s.1, s.2.1.imp id fun ⟨b, off, e, hb, r⟩ => ⟨b, off, e, hb.fr hf r.z, r.fr hf hb.1⟩, fun e he => (s.2.2 e he).fr hf⟩
theorem SqApartE.lo {w : World} {lo lo' : Nat} {h : Hd} {l : List ApartE} (s : SqApartE w lo h l) (hl : lo' ≤ lo) : SqApartE w lo' h l :=
  ⟨s.1, s.2.1.imp id fun ⟨b, off, e, hb, r⟩ => ⟨b, off, e, hb.lo hl, r⟩, fun e he => (s.2.2 e he).lo hl⟩
theorem SqApartE.keep {w w1 : World} {lo : Nat} {h : Hd} {l : List ApartE} (s : SqApartE w lo h l) (hb : Below w.heap.size w w1) : SqApartE w1 lo h l := s.fr (Fr.below hb lo)
theorem SqApartE.at {w : World} {lo : Nat} {h : Hd} {l : List ApartE} (s : SqApartE w lo h l) {k : Nat} (hk : k < h.len) : ∃ b off, h.a = some ⟨b, off, none⟩ ∧ ApartRow w b off l := by
  rcases s.2.1 with e | ⟨b, off, e, _, r⟩
  · rw [s.1, e] at hk; simp at hk
  · exact ⟨b, off, e, r⟩
def SqApart (w : World) (lo : Nat) (h : Hd) (xs : List ApartT) : Prop := ∃ l : List ApartE, l.map (·.t) = xs ∧ SqApartE w lo h l
theorem SqApart.fr {w w1 : World} {lo : Nat} {h : Hd} {xs : List ApartT} (s : SqApart w lo h xs) (hf : Fr lo w w1) : SqApart w1 lo h xs := ⟨s.choose, s.choose_spec.1, s.choose_spec.2.fr hf⟩
theorem SqApart.lo {w : World} {lo lo' : Nat} {h : Hd} {xs : List ApartT} (s : SqApart w lo h xs) (hl : lo' ≤ lo) : SqApart w lo' h xs := ⟨s.choose, s.choose_spec.1, s.choose_spec.2.lo hl⟩
theorem SqApart.keep {w w1 : World} {lo : Nat} {h : Hd} {xs : List ApartT} (s : SqApart w lo h xs) (hb : Below w.heap.size w w1) : SqApart w1 lo h xs := s.fr (Fr.below hb lo)
theorem SqApart.len {w : World} {lo : Nat} {h : Hd} {xs : List ApartT} (s : SqApart w lo h xs) : h.len = xs.length := by
  obtain ⟨l, rfl, s⟩ := s
  rw [s.1]; simp

set_option maxRecDepth 20000 in
set_option maxHeartbeats 2000000 in
theorem szApart_n (e : ApartE) (left : Int) (w : World) (h0 : 0 ≤ left) (h1 : left ≤ 1048576) (ho : ApartN e.t) (hm : ApartM w 0 e) :
    Calls Tryz.prog 47 #[.agg #[.slice e.h0.a e.h0.len e.h0.cap, .int .i64 e.t.f1, .bool e.t.f2], .int .i64 left] w fun r w' => (∃ m : Int, -1 ≤ m ∧ m ≤ left ∧ (0 ≤ m → ApartSm e.t) ∧ r = .returned (.int .i64 m)) ∧ Below w.heap.size w w' := by
  have q0 := hide (fun l w h0 h1 hs => szStringS_n e.h0 e.t.f0 l w h0 h1 ho.o0 ho.l0 hs)
  have M0 := hide hm.m0
  have R := hide (RowIs.new w #[.slice e.h0.a e.h0.len e.h0.cap, .int .i64 e.t.f1, .bool e.t.f2] 95)
  have B := hide (bAl (Below.refl w.heap.size w) (.cells #[.slice e.h0.a e.h0.len e.h0.cap, .int .i64 e.t.f1, .bool e.t.f2] 95))
  clear ho hm
  go_enter Tryz.func47, Tryz.ntmps47
  go_wp2_with fail
  refine (unhide q0 _ _ (by omega) (by omega) ((unhide M0).keep (unhide B))).mono ?_
  rintro r w1 ⟨⟨m0, x0, y0, z0, rfl⟩, hb1⟩
  have Z0 := hide z0
  clear z0
  replace R := hide ((unhide R).keep hb1)
  replace B := hide (bTr (unhide B) hb1)
  clear hb1 
  by_cases e0 : m0 < 0
  · go_wp2_with fail
    go_ret
    exact ⟨⟨-1, by omega, by omega, by omega, rfl⟩, unhide B⟩
  go_wp2_with fail
  go_ret
  exact ⟨⟨_, by omega, by omega, fun _ => ⟨unhide Z0 (by omega), trivial⟩, rfl⟩, unhide B⟩

set_option maxRecDepth 40000 in
set_option maxHeartbeats 8000000 in
theorem toApart_n (e : ApartE) (w : World) (hs : ApartSm e.t) (hm : ApartM w 0 e) :
    Calls Tryz.prog 59 #[.agg #[.slice e.h0.a e.h0.len e.h0.cap, .int .i64 e.t.f1, .bool e.t.f2]] w fun r w' => (∃ e' : ApartE, e'.t = e.t ∧ r = .returned (.agg #[.slice e'.h0.a e'.h0.len e'.h0.cap, .int .i64 e'.t.f1, .bool e'.t.f2]) ∧ ApartM w' w.heap.size e') ∧ Below w.heap.size w w' := by
  have q0 := hide (fun w hm => toStringS_n e.h0 e.t.f0 w hs.l0 hm)
  have M0 := hide hm.m0
  clear hs hm
  obtain ⟨W0, hW0⟩ : ∃ W, W = ((w.alloc (.cells #[.slice e.h0.a e.h0.len e.h0.cap, .int .i64 e.t.f1, .bool e.t.f2] 95)).alloc (.cells #[.slice none 0 0, .int .i64 0, .bool false] 109)).alloc (.cells #[.slice none 0 0, .int .i64 0, .bool false] 109) := ⟨_, rfl⟩
  have z0 : W0.heap.size = w.heap.size + 1 + 1 + 1 := by rw [hW0]; simp
  have b0 : Below w.heap.size w W0 := by rw [hW0]; exact bAl (bAl (bAl (Below.refl _ _) _) _) _
  have A0 : RowIs W0 w.heap.size #[.slice e.h0.a e.h0.len e.h0.cap, .int .i64 e.t.f1, .bool e.t.f2] 95 := by rw [hW0]; exact ((RowIs.new w _ _).keep (bAl (Below.refl _ _) _)).keep (bAl (Below.refl _ _) _)
  have Z0 : RowIs W0 (w.heap.size + 1) #[.slice none 0 0, .int .i64 0, .bool false] 109 := by
    rw [hW0]
    have := (RowIs.new (w.alloc (.cells #[.slice e.h0.a e.h0.len e.h0.cap, .int .i64 e.t.f1, .bool e.t.f2] 95)) #[.slice none 0 0, .int .i64 0, .bool false] 109).keep (bAl (Below.refl _ _) (.cells #[.slice none 0 0, .int .i64 0, .bool false] 109))
    simpa using this
  have O0 : RowIs W0 (w.heap.size + 1 + 1) #[.slice none 0 0, .int .i64 0, .bool false] 109 := by
    rw [hW0]
    have := RowIs.new ((w.alloc (.cells #[.slice e.h0.a e.h0.len e.h0.cap, .int .i64 e.t.f1, .bool e.t.f2] 95)).alloc (.cells #[.slice none 0 0, .int .i64 0, .bool false] 109)) #[.slice none 0 0, .int .i64 0, .bool false] 109
    simpa using this
  have HW := hide hW0
  have hne1 : w.heap.size ≠ w.heap.size + 1 + 1 := by omega
  have hne2 : w.heap.size + 1 ≠ w.heap.size + 1 + 1 := by omega
  clear hW0
  go_enter Tryz.func59, Tryz.ntmps59
  go_wp2_with fail
  rw [← unhide HW]
  clear HW
  have Oh := hide O0
  clear O0
  have Zh := hide Z0
  clear Z0
  have Ah := hide A0
  clear A0
  have Bh := hide b0
  have Gh : Hid (w.heap.size + 3 ≤ W0.heap.size) := hide (by omega)
  clear b0 z0
  refine (unhide q0 _ ((unhide M0).keep (unhide Bh))).mono ?_
  rintro r v0 ⟨⟨k0, rfl, hk0⟩, hb1⟩
  have K0 := hide (hk0.lo (unhide Gh))
  clear hk0
  have Gn : Hid (w.heap.size + 3 ≤ v0.heap.size) := hide (Nat.le_trans (unhide Gh) hb1.size)
  clear Gh
  have Gh := Gn
  clear Gn
  replace Oh := hide ((unhide Oh).keep hb1)
  replace Zh := hide ((unhide Zh).keep hb1)
  replace Ah := hide ((unhide Ah).keep hb1)
  replace Bh := hide (bTr (unhide Bh) hb1)
  clear hb1
  have k_0 := (unhide Oh).at (o := 0) (v := .slice none 0 0) rfl
  have g_0 := (unhide Oh).froz 0
  have k_1 := (unhide Oh).at (o := 1) (v := .int .i64 0) rfl
  have g_1 := (unhide Oh).froz 1
  have k_2 := (unhide Oh).at (o := 2) (v := .bool false) rfl
  have g_2 := (unhide Oh).froz 2
  have zO := (unhide Oh).lt
  have zA := (unhide Ah).lt
  have a_1 := (unhide Ah).at (o := 1) (v := .int .i64 e.t.f1) rfl
  have a_2 := (unhide Ah).at (o := 2) (v := .bool e.t.f2) rfl
  obtain ⟨W1, hW⟩ : ∃ W, W = (((v0.setCell ⟨w.heap.size + 1 + 1, 0, none⟩ (.slice k0.a k0.len k0.cap)).setCell ⟨w.heap.size + 1 + 1, 1, none⟩ (.int .i64 e.t.f1)).setCell ⟨w.heap.size + 1 + 1, 2, none⟩ (.bool e.t.f2)) := ⟨_, rfl⟩
  have On : Hid (RowIs W1 (w.heap.size + 1 + 1) #[.slice k0.a k0.len k0.cap, .int .i64 e.t.f1, .bool e.t.f2] 109) := hide (by have h := ((((unhide Oh).set 0 (.slice k0.a k0.len k0.cap)).set 1 (.int .i64 e.t.f1)).set 2 (.bool e.t.f2)); simp only [List.setIfInBounds_toArray, List.set_cons_zero, List.set_cons_succ] at h; rw [hW]; exact h)
  have Zn : Hid (RowIs W1 (w.heap.size + 1) #[.slice none 0 0, .int .i64 0, .bool false] 109) := hide (by rw [hW]; exact ((((unhide Zh).setOther (o' := 0) (.slice k0.a k0.len k0.cap) hne2).setOther (o' := 1) (.int .i64 e.t.f1) hne2).setOther (o' := 2) (.bool e.t.f2) hne2))
  have An : Hid (RowIs W1 w.heap.size #[.slice e.h0.a e.h0.len e.h0.cap, .int .i64 e.t.f1, .bool e.t.f2] 95) := hide (by rw [hW]; exact ((((unhide Ah).setOther (o' := 0) (.slice k0.a k0.len k0.cap) hne1).setOther (o' := 1) (.int .i64 e.t.f1) hne1).setOther (o' := 2) (.bool e.t.f2) hne1))
  have Bn : Hid (Below w.heap.size w W1) := hide (by rw [hW]; exact (bSt (bSt (bSt (unhide Bh) (b := w.heap.size + 1 + 1) (by omega) 0 (.slice k0.a k0.len k0.cap)) (b := w.heap.size + 1 + 1) (by omega) 1 (.int .i64 e.t.f1)) (b := w.heap.size + 1 + 1) (by omega) 2 (.bool e.t.f2)))
  have Gn : Hid (w.heap.size + 3 ≤ W1.heap.size) := hide (by rw [hW]; simp only [size_sc]; exact unhide Gh)
  replace K0 := hide (show SqS W1 (w.heap.size + 3) k0 e.t.f0 by rw [hW]; exact (unhide K0).fr ((((Fr.below (Below.refl _ v0) _).sets (.slice k0.a k0.len k0.cap) (by omega)).sets (.int .i64 e.t.f1) (by omega)).sets (.bool e.t.f2) (by omega)))
  have HW := hide hW.symm
  clear hW Oh Zh Ah Bh Gh
  have Oh := On
  clear On
  have Zh := Zn
  clear Zn
  have Ah := An
  clear An
  have Bh := Bn
  clear Bn
  have Gh := Gn
  clear Gn
  go_upto_region 5 with fail
  rw [unhide HW]
  clear HW k_0 g_0 k_1 g_1 k_2 g_2 zO zA a_1 a_2
  go_step
  refine wpList_load_row rfl 109 _ rfl (w.heap.size + 1 + 1) rfl 109 _ (0, 0) _ (unhide Oh) Tryz.underlying109 rfl (by kernel_rfl) ?_
  refine wpList_store_row rfl 109 _ _ rfl (w.heap.size + 1) #[.slice k0.a k0.len k0.cap, .int .i64 e.t.f1, .bool e.t.f2] rfl rfl 109 _ (unhide Zh) (by kernel_rfl) rfl (by simp [Value.oneCell']) ?_
  have Z6 := hide (setRow_heap W1 (w.heap.size + 1) _ #[.slice k0.a k0.len k0.cap, .int .i64 e.t.f1, .bool e.t.f2] _ _ (unhide Zh))
  go_wp2_with fail
  refine bodyPost_ret (v := .agg #[.slice k0.a k0.len k0.cap, .int .i64 e.t.f1, .bool e.t.f2]) (results_cell_row rfl _ _ (w.heap.size + 1) 109 _ (0, 0) _ rfl (unhide Z6) Tryz.underlying109 rfl (by kernel_rfl)) rfl ⟨⟨⟨e.t, k0⟩, rfl, rfl, ⟨((unhide K0).fr ((Fr.below (Below.refl _ _) _).row _ (by omega))).lo (by omega), trivial⟩⟩, bRow (unhide Bh) (by omega) _⟩

set_option maxRecDepth 20000 in
set_option maxHeartbeats 2000000 in
theorem eqApart_n (e1 e2 : ApartE) (w : World) (ht : e2.t = e1.t) (hn : ApartN e1.t) (m1 : ApartM w 0 e1) (m2 : ApartM w 0 e2) :
    Calls Tryz.prog 70 #[.agg #[.slice e1.h0.a e1.h0.len e1.h0.cap, .int .i64 e1.t.f1, .bool e1.t.f2], .agg #[.slice e2.h0.a e2.h0.len e2.h0.cap, .int .i64 e2.t.f1, .bool e2.t.f2]] w fun r w' => r = .returned (.bool true) ∧ Below w.heap.size w w' := by
  obtain ⟨t, h0⟩ := e1
  obtain ⟨t', g0⟩ := e2
  simp only at ht
  subst ht
  have q0 := hide (fun w u1 u2 => eqStringS_n h0 g0 t'.f0 w hn.l0 u1 u2)
  have M0 := hide m1.m0
  have P0 := hide m2.m0
  have X := hide ((RowIs.new w #[.slice h0.a h0.len h0.cap, .int .i64 t'.f1, .bool t'.f2] 109).keep (bAl (Below.refl _ _) (.cells #[.slice g0.a g0.len g0.cap, .int .i64 t'.f1, .bool t'.f2] 109)))
  have Y : Hid (RowIs ((w.alloc (.cells #[.slice h0.a h0.len h0.cap, .int .i64 t'.f1, .bool t'.f2] 109)).alloc (.cells #[.slice g0.a g0.len g0.cap, .int .i64 t'.f1, .bool t'.f2] 109)) (w.heap.size + 1) #[.slice g0.a g0.len g0.cap, .int .i64 t'.f1, .bool t'.f2] 109) := hide (by have := RowIs.new (w.alloc (.cells #[.slice h0.a h0.len h0.cap, .int .i64 t'.f1, .bool t'.f2] 109)) #[.slice g0.a g0.len g0.cap, .int .i64 t'.f1, .bool t'.f2] 109; simpa using this)
  have B := hide (bAl (bAl (Below.refl w.heap.size w) (.cells #[.slice h0.a h0.len h0.cap, .int .i64 t'.f1, .bool t'.f2] 109)) (.cells #[.slice g0.a g0.len g0.cap, .int .i64 t'.f1, .bool t'.f2] 109))
  clear m1 m2 hn
  go_enter Tryz.func70, Tryz.ntmps70
  go_wp2_with fail
  refine (unhide q0 _ ((unhide M0).keep (unhide B)) ((unhide P0).keep (unhide B))).mono ?_
  rintro r w1 ⟨rfl, hb1⟩
  replace X := hide ((unhide X).keep hb1)
  replace Y := hide ((unhide Y).keep hb1)
  replace B := hide (bTr (unhide B) hb1)
  clear hb1 
  have c1 := (unhide X).at (o := 1) (v := .int .i64 t'.f1) rfl
  have d1 := (unhide Y).at (o := 1) (v := .int .i64 t'.f1) rfl
  have c2 := (unhide X).at (o := 2) (v := .bool t'.f2) rfl
  have d2 := (unhide Y).at (o := 2) (v := .bool t'.f2) rfl
  go_wp2_with fail
  go_ret
  exact ⟨rfl, unhide B⟩

set_option maxRecDepth 20000 in
set_option maxHeartbeats 2000000 in
theorem szApartS_n (h : Hd) (xs : List ApartT) (left : Int) (w : World) (h0 : 0 ≤ left) (h1 : left ≤ 1048576) (ho : ∀ q ∈ xs, ApartN q) (hl : xs.length ≤ maxLen) (hs : SqApart w 0 h xs) :
    Calls Tryz.prog 18 #[.slice h.a h.len h.cap, .int .i64 left] w fun e w' => (∃ m : Int, -1 ≤ m ∧ m ≤ left ∧ (0 ≤ m → xs.length ≤ 1048576 ∧ ∀ q ∈ xs, ApartSm q) ∧ e = .returned (.int .i64 m)) ∧ Below w.heap.size w w' := by
  obtain ⟨l, rfl, hs⟩ := hs
  have ho' : ∀ q ∈ l, ApartN q.t := fun q hq => ho _ (List.mem_map_of_mem hq)
  have HSM : Hid ((∀ i (h : i < l.length), ApartSm l[i].t) → ∀ q ∈ l.map (·.t), ApartSm q) := hide (fun g q hq => by
    obtain ⟨e, he, rfl⟩ := List.mem_map.1 hq
    obtain ⟨i, hi, rfl⟩ := List.getElem_of_mem he
    exact g i hi)
  have hll : (l.map (·.t)).length = l.length := by simp
  rw [hll] at hl ⊢
  clear ho hll
  unfold maxLen at hl
  have hle := hs.1
  obtain ⟨a, len, cap⟩ := h
  simp only at hle
  by_cases hlen : left < (len : Int)
  · clear hs ho' HSM
    go_enter Tryz.func18, Tryz.ntmps18
    go_wp2
    go_ret
    exact ⟨⟨-1, by omega, by omega, by omega, rfl⟩, Below.refl _ _⟩
  have d1 : decide (left - (len : Int) < 0) = false := by simp; omega
  have HS := hide hs
  have HO := hide ho'
  clear hs ho'
  go_enter Tryz.func18, Tryz.ntmps18
  go_wp2
  go_loopw [1, 5] (fun m i w' => ∃ (k : Nat) (q : Int), k ≤ len ∧ 0 ≤ q ∧ q ≤ left ∧ i = .int .i64 k ∧ m = .int .i64 q ∧ Hid (∀ i (h : i < l.length), i < k → ApartSm l[i].t) ∧ Below w.heap.size w w') (fun _ i _ => len - (Go.RowKit.intOf i).toNat)
  case atStart => exact ⟨0, _, Nat.zero_le _, by omega, by omega, rfl, rfl, hide (fun i _ h => absurd h (Nat.not_lt_zero _)), Below.refl _ _⟩
  case round =>
    obtain ⟨k, q, hk, hq1, hq2, rfl, rfl, hall, hbel⟩ := hrel
    by_cases hlt : k < len
    · obtain ⟨b, off, e0, hrow⟩ := ((unhide HS).keep hbel).at hlt
      simp only at e0
      subst e0
      have hk' : k < l.length := by omega
      have c0 := hrow.c0 k hk'
      have c1 := hrow.c1 k hk'
      have c2 := hrow.c2 k hk'
      have hz := hide (fun q (w : World) h0 h1 hb => szApart_n l[k] q w h0 h1 (unhide HO _ (List.getElem_mem hk')) (((unhide HS).2.2 _ (List.getElem_mem hk')).keep hb))
      have hst := hide (show ApartSm l[k].t → ∀ i (h : i < l.length), i < k + 1 → ApartSm l[i].t from fun hle i hi hik => by
        rcases Nat.lt_or_ge i k with h | h
        · exact unhide hall i hi h
        · obtain rfl : i = k := by omega
          exact hle)
      clear hrow
      generalize l[k] = A at hz hst c0 c1 c2
      go_wp2_with fail
      refine (unhide hz _ _ (by omega) (by omega) hbel).mono ?_
      rintro e w1 ⟨⟨m, hm1, hm2, hm3, rfl⟩, hb1⟩
      by_cases hm : m < 0
      · go_wp2_with fail
        go_ret
        exact ⟨⟨-1, by omega, by omega, by omega, rfl⟩, bTr hbel hb1⟩
      · have hst2 := hide (unhide hst (hm3 (by omega)))
        go_wp2_with fail
        exact ⟨⟨k + 1, m, by omega, by omega, by omega, by go_num, rfl, hst2, bTr hbel hb1⟩, by simp [Go.RowKit.intOf]; omega⟩
    · go_wp2_with fail
      go_ret
      exact ⟨⟨q, by omega, by omega, fun _ => ⟨by omega, unhide HSM fun i hi => unhide hall i hi (by omega)⟩, rfl⟩, hbel⟩

theorem info_Apart : (Tryz.prog.info? 109).map (fun i => (i.zero, i.size, i.bytes)) = some (some (.agg #[.slice none 0 0, .int .i64 0, .bool false]), 3, 40) := by kernel_rfl
theorem make_Apart (len : Nat) (w : World) (h : len ≤ 1048576) : ∃ w1 C, (Instr.makeSlice 36 (.int .i64 (len : Int)) (.int .i64 (len : Int))).run Tryz.prog w = .ok (.slice (some ⟨w.heap.size, 0, none⟩) len len) w1 ∧
    Below w.heap.size w w1 ∧ RowIs w1 w.heap.size C 109 ∧ C.size = len * 3 := by
  obtain ⟨i, h1, h2⟩ := Option.map_eq_some_iff.1 info_Apart
  simp only [Prod.mk.injEq] at h2
  obtain ⟨hz, hsz, hby⟩ := h2
  have hr := run_make (P := Tryz.prog) w 36 109 i _ Tryz.underlying36 h1 hz .i64 .i64 (len : Int) (len : Int) (by omega) (by omega) (by rw [hby]; omega) (by omega)
  rw [Int.toNat_natCast, hsz] at hr
  exact ⟨_, _, hr, bAl (Below.refl _ _) _, RowIs.new _ _ _, size_madeCells _ _⟩
def FilledApart (C : Array Value) (l : List ApartE) : Prop := ∀ i (h : i < l.length), C[i * 3]? = some (.slice l[i].h0.a l[i].h0.len l[i].h0.cap) ∧ C[i * 3 + 1]? = some (.int .i64 l[i].t.f1) ∧ C[i * 3 + 2]? = some (.bool l[i].t.f2)
def setApart (C : Array Value) (k : Nat) (x : ApartE) : Array Value := (((C.setIfInBounds (k * 3) (.slice x.h0.a x.h0.len x.h0.cap)).setIfInBounds (k * 3 + 1) (.int .i64 x.t.f1)).setIfInBounds (k * 3 + 2) (.bool x.t.f2))
theorem size_setApart (C : Array Value) (k : Nat) (x : ApartE) : (setApart C k x).size = C.size := by simp [setApart]
theorem FilledApart.snoc {C : Array Value} {l : List ApartE} (h : FilledApart C l) (x : ApartE) (hC : l.length * 3 + 3 ≤ C.size) : FilledApart (setApart C l.length x) (l ++ [x]) := by
  intro i hi
  unfold setApart
  by_cases e : i = l.length
  · subst e
    have s0 : l.length * 3 < C.size := by omega
    have s1 : l.length * 3 + 1 < C.size := by omega
    have s2 : l.length * 3 + 2 < C.size := by omega
    simp [s0, s1, s2]
  · have hi' : i < l.length := by simp at hi; omega
    have := h i hi'
    rw [List.getElem_append_left hi']
    simp only [Array.getElem?_setIfInBounds]
    repeat rw [if_neg (by omega)]
    exact this
theorem FilledApart.row {w : World} {b : Nat} {C : Array Value} {T : TypeId} {l : List ApartE} (h : FilledApart C l) (hr : RowIs w b C T) : ApartRow w b 0 l :=
  ⟨hr.lt, fun i hi => by rw [Nat.zero_add, hr.cell]; exact (h i hi).1, fun i hi => by rw [Nat.zero_add, hr.cell]; exact (h i hi).2.1, fun i hi => by rw [Nat.zero_add, hr.cell]; exact (h i hi).2.2⟩
set_option maxRecDepth 100000 in
set_option maxHeartbeats 4000000 in
theorem toApartS_n (h : Hd) (xs : List ApartT) (w : World) (hl : xs.length ≤ 1048576 ∧ ∀ q ∈ xs, ApartSm q) (hs : SqApart w 0 h xs) :
    Calls Tryz.prog 27 #[.slice h.a h.len h.cap] w fun e w' => (∃ h' : Hd, e = .returned (.slice h'.a h'.len h'.cap) ∧ SqApart w' w.heap.size h' xs) ∧ Below w.heap.size w w' := by
  obtain ⟨l, rfl, hs⟩ := hs
  have hsm : ∀ q ∈ l, ApartSm q.t := fun q hq => hl.2 _ (List.mem_map_of_mem hq)
  have hll : l.length ≤ 1048576 := by have := hl.1; simpa using this
  clear hl
  have hle := hs.1
  obtain ⟨a, len, cap⟩ := h
  simp only at hle
  obtain ⟨w1, C1, hrun, hb1, hr1, hC1⟩ := make_Apart len w (by omega)
  have HS := hide hs
  have HM := hide hsm
  have HB1 := hide hb1
  have HR1 := hide hr1
  have HL := hide hle
  clear hs hb1 hr1 hsm hle
  go_enter Tryz.func27, Tryz.ntmps27
  go_wp2
  clear hrun
  go_loopw [4] (fun i w' => ∃ (k : Nat) (C : Array Value) (l' : List ApartE), k ≤ len ∧ i = .int .i64 k ∧ Hid (l'.length = k ∧ l'.map (·.t) = (l.map (·.t)).take k) ∧ Hid (Below w.heap.size w w') ∧ Hid (RowIs w' w.heap.size C 109) ∧ Hid (C.size = len * 3) ∧ Hid (FilledApart C l') ∧ Hid (∀ e ∈ l', ApartM w' (w.heap.size + 1) e)) (fun i _ => len - (Go.RowKit.intOf i).toNat)
  case atStart => exact ⟨0, C1, [], Nat.zero_le _, rfl, hide ⟨rfl, by simp⟩, HB1, HR1, hide hC1, hide (fun i h => absurd h (Nat.not_lt_zero _)), hide (fun e he => by cases he)⟩
  case round =>
    obtain ⟨k, C, l', hk, rfl, hl', hb, hr, hC, hF, hMs⟩ := hrel
    by_cases hlt : k < len
    · obtain ⟨b, off, e0, hrow⟩ := ((unhide HS).keep (unhide hb)).at hlt
      simp only at e0
      subst e0
      have hk' : k < l.length := by have := unhide HL; omega
      have c0 := hrow.c0 k hk'
      have c1 := hrow.c1 k hk'
      have c2 := hrow.c2 k hk'
      have ht := hide (fun (w : World) hb => toApart_n l[k] w (unhide HM _ (List.getElem_mem hk')) (((unhide HS).2.2 _ (List.getElem_mem hk')).keep hb))
      have htk : Hid (∀ A' : ApartE, A'.t = l[k].t → (l' ++ [A']).length = k + 1 ∧ (l' ++ [A']).map (·.t) = (l.map (·.t)).take (k + 1)) := hide (fun A' e => by
        refine ⟨by simp [(unhide hl').1], ?_⟩
        rw [List.map_append, (unhide hl').2, List.take_add_one]
        simp [hk', e])
      clear hrow hC1
      generalize l[k] = A at ht htk c0 c1 c2
      go_wp2_with fail
      refine (unhide ht _ (unhide hb)).mono ?_
      rintro e w2 ⟨⟨A', eA, rfl, hMA⟩, hb2⟩
      have zb : w.heap.size < wr.heap.size := (unhide hr).lt
      have hMA' := hide (hMA.lo (lo' := w.heap.size + 1) zb)
      replace hr := hide ((unhide hr).keep hb2)
      replace hb := hide (bTr (unhide hb) hb2)
      replace hMs := hide (fun e he => (unhide hMs e he).keep hb2)
      have hF' := hide ((unhide hF).snoc A' (by rw [unhide hC, (unhide hl').1]; omega))
      have hl2 := hide (unhide htk A' eA)
      have el : l'.length = k := (unhide hl').1
      rw [el] at hF'
      have s9 : k * 3 + 2 < C.size := by rw [unhide hC]; omega
      obtain ⟨D0, d0⟩ : ∃ D, C[k * 3]? = some D := ⟨_, Array.getElem?_eq_getElem (by omega)⟩
      have g0 := (unhide hr).at d0
      have y0 := (unhide hr).froz (k * 3)
      clear d0
      obtain ⟨D1, d1⟩ : ∃ D, C[k * 3 + 1]? = some D := ⟨_, Array.getElem?_eq_getElem (by omega)⟩
      have g1 := (unhide hr).at d1
      have y1 := (unhide hr).froz (k * 3 + 1)
      clear d1
      obtain ⟨D2, d2⟩ : ∃ D, C[k * 3 + 2]? = some D := ⟨_, Array.getElem?_eq_getElem (by omega)⟩
      have g2 := (unhide hr).at d2
      have y2 := (unhide hr).froz (k * 3 + 2)
      clear d2
      clear c0 c1 c2 hb2 hMA eA htk hF hl' ht
      go_wp2_with fail
      refine ⟨⟨k + 1, setApart C k A', l' ++ [A'], by omega, by go_num, hl2, hide ?_, hide ?_, hide (by rw [size_setApart]; exact unhide hC), hF', hide ?_⟩, by simp [Go.RowKit.intOf]; omega⟩
      · repeat refine bSt ?_ (Nat.le_refl _) _ _
        exact unhide hb
      · exact (((unhide hr).set _ _).set _ _).set _ _
      · have fr : Fr (w.heap.size + 1) w2 _ := ((((Fr.below (Below.refl _ w2) _).sets (o' := k * 3) (.slice A'.h0.a A'.h0.len A'.h0.cap) (Nat.lt_succ_self _)).sets (o' := k * 3 + 1) (.int .i64 A'.t.f1) (Nat.lt_succ_self _)).sets (o' := k * 3 + 2) (.bool A'.t.f2) (Nat.lt_succ_self _))
        intro e he
        rcases List.mem_append.1 he with h | h
        · exact (unhide hMs e h).fr fr
        · obtain rfl : e = A' := by simpa using h
          exact (unhide hMA').fr fr
    · go_wp2_with fail
      go_ret
      have hle := unhide HL
      have e : k = l.length := by omega
      have el : l'.length = k := (unhide hl').1
      exact ⟨⟨⟨some ⟨w.heap.size, 0, none⟩, len, len⟩, rfl, l', by rw [(unhide hl').2, e, List.take_of_length_le (by simp)], by simp only; omega, .inr ⟨_, _, rfl, Lo.own (fun o => (unhide hr).froz o), (unhide hF).row (unhide hr)⟩, fun e he => (unhide hMs e he).lo (Nat.le_succ _)⟩, unhide hb⟩

set_option maxRecDepth 20000 in
set_option maxHeartbeats 4000000 in
theorem eqApartS_n (h g : Hd) (xs : List ApartT) (w : World) (hl : xs.length ≤ maxLen) (hn : ∀ q ∈ xs, ApartN q) (h1 : SqApart w 0 h xs) (h2 : SqApart w 0 g xs) :
    Calls Tryz.prog 36 #[.slice h.a h.len h.cap, .slice g.a g.len g.cap] w fun e w' => e = .returned (.bool true) ∧ Below w.heap.size w w' := by
  obtain ⟨l, rfl, h1⟩ := h1
  obtain ⟨m, em, h2⟩ := h2
  have hn' : ∀ q ∈ l, ApartN q.t := fun q hq => hn _ (List.mem_map_of_mem hq)
  have elm : m.length = l.length := by have := congrArg List.length em; simpa using this
  have het : ∀ i (hi : i < l.length), (m[i]'(by omega)).t = l[i].t := fun i hi => by
    have := List.getElem_of_eq em (i := i) (by simp; omega)
    simpa using this
  have hle := h1.1
  have hge := h2.1
  have hlm : l.length ≤ maxLen := by simpa using hl
  unfold maxLen at hlm
  obtain ⟨a1, len1, c1⟩ := h
  obtain ⟨a2, len2, c2⟩ := g
  simp only at hle hge
  obtain rfl : len1 = len2 := by omega
  have H1 := hide h1
  have H2 := hide h2
  have HN := hide hn'
  have HT := hide het
  clear h1 h2 hn hn' het em hl
  go_enter Tryz.func36, Tryz.ntmps36
  go_wp2
  go_loopw [5] (fun i w' => ∃ k : Nat, k ≤ len1 ∧ i = .int .i64 k ∧ Hid (Below w.heap.size w w')) (fun i _ => len1 - (Go.RowKit.intOf i).toNat)
  case atStart => exact ⟨0, Nat.zero_le _, rfl, hide (Below.refl _ _)⟩
  case round =>
    obtain ⟨k, hk, rfl, hbel⟩ := hrel
    by_cases hlt : k < len1
    · have hk' : k < l.length := by omega
      have hk2 : k < m.length := by omega
      obtain ⟨b, off, e0, r1⟩ := ((unhide H1).keep (unhide hbel)).at hlt
      obtain ⟨b', off', e1, r2⟩ := ((unhide H2).keep (unhide hbel)).at hlt
      simp only at e0 e1
      subst e0 e1
      have p0 := r1.c0 k hk'
      have p1 := r1.c1 k hk'
      have p2 := r1.c2 k hk'
      have q0 := r2.c0 k hk2
      have q1 := r2.c1 k hk2
      have q2 := r2.c2 k hk2
      have z1 := r1.z
      have z2 := r2.z
      have Q := hide (fun (q : Kept wr) => eqApart_n l[k] m[k] q.w (unhide HT k hk') (unhide HN _ (List.getElem_mem hk')) (((unhide H1).2.2 _ (List.getElem_mem hk')).keep (bTr (unhide hbel) q.h)) (((unhide H2).2.2 _ (List.getElem_mem hk2)).keep (bTr (unhide hbel) q.h)))
      clear r1 r2
      generalize l[k] = A at Q p0 p1 p2
      generalize m[k] = A' at Q q0 q1 q2
      have ne : Nonempty (Kept wr) := ⟨⟨wr, Below.refl _ _⟩⟩
      have x0 := kept_cell z1 p0
      have x1 := kept_cell z1 p1
      have x2 := kept_cell z1 p2
      have y0 := kept_cell z2 q0
      have y1 := kept_cell z2 q1
      have y2 := kept_cell z2 q2
      have i0 : (0 : Int) ≤ (k : Int) := by omega
      have i1 : (k : Int) < (len1 : Int) := by omega
      go_wp2_with fail
      refine wp_region_kept (by kernel_rfl) (by kernel_rfl) ?_
      repeat (first
        | go_big_quiet_step ((go_at_call 70; exact kept_call (unhide Q _)))
        | quiet_step ((go_at_call 70; exact kept_call (unhide Q _))))
      refine wpQuiet_nil ?_
      rintro _ ⟨q, rfl⟩
      clear ne x0 x1 x2 y0 y1 y2
      obtain ⟨w3, hb3⟩ := q
      have HB3 := hide (bTr (unhide hbel) hb3)
      go_wp2_with fail
      exact ⟨⟨k + 1, by omega, by go_num, HB3⟩, by simp [Go.RowKit.intOf]; omega⟩
    · go_wp2_with fail
      go_ret
      exact ⟨rfl, unhide hbel⟩

theorem listcApart {α : Type} {l : List α} (h : l.length = 3) : ∃ a0 a1 a2, l = [a0, a1, a2] := by
  match l, h with
  | [a0, a1, a2], _ => exact ⟨a0, a1, a2, rfl⟩
theorem listfApart {α : Type} {l : List α} (h : l.length = 3) : ∃ a0 a1 a2, l = [a0, a1, a2] := by
  match l, h with
  | [a0, a1, a2], _ => exact ⟨a0, a1, a2, rfl⟩
section
variable {H : Type} {enc : TypeId × Value → H} {w : World} {base : Nat} {sp : Nat → Bool} {held : Bool}
set_option maxRecDepth 100000 in
theorem read_Apart {n : Nat} {cs : List Value} {x : DataW H × List MemPlace} (h : DataW.trod enc Tryz.prog w base sp held n 95 cs = some x) : ∃ e : ApartE, cs = [.slice e.h0.a e.h0.len e.h0.cap, .int .i64 e.t.f1, .bool e.t.f2] ∧ ApartN e.t ∧ ApartM w 0 e := by
  obtain ⟨xs, m, rfl, _, hlen, hx, hf⟩ := DataW.trod_struct Tryz.underlying95 h
  have hc : Tryz.prog.cellsOf 95 = 3 := by kernel_rfl
  have ky0 : Tryz.prog.cellsOf 24 = 1 := by kernel_rfl
  have ky1 : Tryz.prog.cellsOf 4 = 1 := by kernel_rfl
  have ky2 : Tryz.prog.cellsOf 3 = 1 := by kernel_rfl
  obtain ⟨c0, c1, c2, rfl⟩ := listcApart (hlen.trans hc)
  obtain ⟨x0, x1, x2, rfl⟩ := listfApart hx
  have h0 : DataW.trod enc Tryz.prog w base sp held m 24 [c0] = some x0 := by have := hf 0 _ rfl; simpa [ky0, ky1, ky2] using this
  have g0 : ∃ a l c, c0 = .slice a l c := by
    rcases Go.Deep.open_slice Tryz.underlying24 h0 with ⟨hcs, _⟩ | ⟨a', len', cap', _, _, _, _, hcs, _⟩
    · simp at hcs; exact ⟨_, _, _, hcs⟩
    · simp at hcs; exact ⟨_, _, _, hcs⟩
  obtain ⟨a0, b0, d0, rfl⟩ := g0
  obtain ⟨y0, s0, ok0, ml0⟩ := readsS h0
  have h1 : DataW.trod enc Tryz.prog w base sp held m 3 [c1] = some x1 := by have := hf 1 _ rfl; simpa [ky0, ky1, ky2] using this
  obtain ⟨y1, e1, _, _⟩ := DataW.trod_int Tryz.underlying3 h1
  simp at e1
  subst e1
  have h2 : DataW.trod enc Tryz.prog w base sp held m 4 [c2] = some x2 := by have := hf 2 _ rfl; simpa [ky0, ky1, ky2] using this
  obtain ⟨y2, e2, _⟩ := DataW.trod_bool Tryz.underlying4 h2
  simp at e2
  subst e2
  exact ⟨⟨⟨y0, y1, y2⟩, ⟨a0, b0, d0⟩⟩, rfl, ⟨ok0, ml0, trivial⟩, ⟨s0, trivial⟩⟩
set_option maxRecDepth 100000 in
theorem came_Apart {r : Reach} {b0 : Nat} {v0 : Value} {d : DataW H} {q : List MemPlace} (hv : Value.okWide Tryz.prog w r b0 95 v0) (h : DataW.Trod enc Tryz.prog w base sp held 95 v0 d q) : ∃ e : ApartE, v0 = .agg #[.slice e.h0.a e.h0.len e.h0.cap, .int .i64 e.t.f1, .bool e.t.f2] ∧ ApartN e.t ∧ ApartM w 0 e := by
  obtain ⟨cs, rfl, _⟩ := okWide_struct Tryz.underlying95 hv
  obtain ⟨fuel, hf0⟩ := h
  obtain ⟨e, h1, h2, h3⟩ := read_Apart hf0
  refine ⟨e, ?_, h2, h3⟩
  obtain ⟨l⟩ := cs
  simp only [Value.cells] at h1
  rw [h1]
set_option maxRecDepth 100000 in
theorem readsApart {n len cap : Nat} {a : Option Addr} {x : DataW H × List MemPlace} (h : DataW.trod enc Tryz.prog w base sp held n 23 [.slice a len cap] = some x) :
    ∃ l : List ApartT, SqApart w 0 ⟨a, len, cap⟩ l ∧ (∀ q ∈ l, ApartN q) ∧ l.length ≤ maxLen := by
  have hc : Tryz.prog.cellsOf 95 = 3 := by kernel_rfl
  rcases Go.Deep.open_slice Tryz.underlying23 h with ⟨hcs, _⟩ | ⟨a', len', cap', m, n', D, Pl, hcs, _, hl, hm, hmm, _, hel⟩
  · simp at hcs
    obtain ⟨rfl, rfl, rfl⟩ := hcs
    exact ⟨[], ⟨[], rfl, rfl, .inl rfl, by simp⟩, by simp, Nat.zero_le _⟩
  · simp at hcs
    obtain ⟨rfl, rfl, rfl⟩ := hcs
    have hlm : len ≤ m := by rw [hmm]; split <;> omega
    by_cases h0 : len = 0
    · subst h0; exact ⟨[], ⟨[], rfl, rfl, .inl rfl, by simp⟩, by simp, Nat.zero_le _⟩
    have hspot : a'.spot = none := by
      obtain ⟨cs', h1, h2⟩ := hel 0 (by omega)
      rw [hc] at h1
      obtain ⟨A, rfl, _⟩ := read_Apart h2
      have e0 := (World.cells?_some h1).2.2 0 (by omega)
      simp [Addr.add] at e0
      exact World.cell?_spot e0
    obtain ⟨b, off, spot⟩ := a'
    simp only at hspot
    subst hspot
    have hA : ∀ i, i < len → ∃ A : ApartE, ApartN A.t ∧ ApartM w 0 A ∧ (w.cell? ⟨b, off + i * 3, none⟩ = some (.slice A.h0.a A.h0.len A.h0.cap) ∧ w.cell? ⟨b, off + i * 3 + 1, none⟩ = some (.int .i64 A.t.f1) ∧ w.cell? ⟨b, off + i * 3 + 2, none⟩ = some (.bool A.t.f2)) ∧ b < w.heap.size := by
      intro i hi
      obtain ⟨cs', h1, h2⟩ := hel i (by omega)
      rw [hc, addr_add] at h1
      obtain ⟨A, rfl, hok, hM⟩ := read_Apart h2
      have h3 := (World.cells?_some h1).2.2
      have e0 := h3 0 (by omega)
      have e1 := h3 1 (by omega)
      have e2 := h3 2 (by omega)
      rw [addr_add] at e0 e1 e2
      exact ⟨A, hok, hM, ⟨e0, e1, e2⟩, World.block_lt_of_cell? w ⟨b, off + i * 3 + 0, none⟩ e0⟩
    obtain ⟨f, hf⟩ := @Go.Deep.choose_lt ApartE ⟨⟨⟨[], 0, false⟩, ⟨none, 0, 0⟩⟩⟩ len (fun i A => ApartN A.t ∧ ApartM w 0 A ∧ (w.cell? ⟨b, off + i * 3, none⟩ = some (.slice A.h0.a A.h0.len A.h0.cap) ∧ w.cell? ⟨b, off + i * 3 + 1, none⟩ = some (.int .i64 A.t.f1) ∧ w.cell? ⟨b, off + i * 3 + 2, none⟩ = some (.bool A.t.f2)) ∧ b < w.heap.size) hA
    refine ⟨((List.range len).map f).map (·.t), ⟨(List.range len).map f, rfl, by simp, .inr ⟨b, off, rfl, Lo.zero _ _, (hf 0 (by omega)).2.2.2, fun i hi => ?_, fun i hi => ?_, fun i hi => ?_⟩, ?_⟩, ?_, by simp; omega⟩
    · simp at hi
      have := (hf i hi).2.2.1.1
      simpa using this
    · simp at hi
      have := (hf i hi).2.2.1.2.1
      simpa using this
    · simp at hi
      have := (hf i hi).2.2.1.2.2
      simpa using this
    · intro q hq
      simp at hq
      obtain ⟨i, hi, rfl⟩ := hq
      exact (hf i hi).2.1
    · intro q hq
      simp at hq
      obtain ⟨i, hi, rfl⟩ := hq
      exact (hf i hi).1
set_option maxRecDepth 100000 in
/-- A slice that came in. -/
theorem cames_Apart {r : Reach} {b0 : Nat} {v0 : Value} {d : DataW H} {q : List MemPlace} (hv : Value.okWide Tryz.prog w r b0 23 v0) (h : DataW.Trod enc Tryz.prog w base sp held 23 v0 d q) :
    ∃ (h : Hd) (xs : List ApartT), v0 = .slice h.a h.len h.cap ∧ SqApart w 0 h xs ∧ (∀ q ∈ xs, ApartN q) ∧ xs.length ≤ maxLen := by
  obtain ⟨a, len, cap, rfl⟩ := okWide_slice Tryz.underlying23 hv
  obtain ⟨fuel, hf0⟩ := h
  obtain ⟨l, h1, h2, h3⟩ := readsApart hf0
  exact ⟨⟨a, len, cap⟩, l, rfl, h1, h2, h3⟩
end
end Go.Proofs.YtfbncneeimikcaaGreat.V
/- impl.RoleSet in memory, by what it holds: sized, copied, held against itself, read. -/
namespace Go.Proofs.YtfbncneeimikcaaGreat.V
set_option linter.unusedSimpArgs false
open Go.ChangeShapes Go.WideShapes Go.RowKit

structure RoleSetT where
  f0 : List RoleT
  f1 : List ApartT
  f2 : List ByteArray
structure RoleSetE where
  t : RoleSetT
  h0 : Hd
  h1 : Hd
  h2 : Hd
structure RoleSetN (x : RoleSetT) : Prop where
  o0 : ∀ q ∈ x.f0, RoleN q
  l0 : x.f0.length ≤ maxLen
  o1 : ∀ q ∈ x.f1, ApartN q
  l1 : x.f1.length ≤ maxLen
  o2 : ∀ q ∈ x.f2, ByteArray.size q ≤ maxLen
  l2 : x.f2.length ≤ maxLen
  tt : True
structure RoleSetSm (x : RoleSetT) : Prop where
  l0 : x.f0.length ≤ 1048576
  o0 : ∀ q ∈ x.f0, RoleSm q
  l1 : x.f1.length ≤ 1048576
  o1 : ∀ q ∈ x.f1, ApartSm q
  l2 : x.f2.length ≤ 1048576
  tt : True
structure RoleSetM (w : World) (lo : Nat) (e : RoleSetE) : Prop where
  m0 : SqRole w lo e.h0 e.t.f0
  m1 : SqApart w lo e.h1 e.t.f1
  m2 : SqS w lo e.h2 e.t.f2
  tt : True
theorem RoleSetM.fr {w w1 : World} {lo : Nat} {e : RoleSetE} (h : RoleSetM w lo e) (hf : Fr lo w w1) : RoleSetM w1 lo e := ⟨h.m0.fr hf, h.m1.fr hf, h.m2.fr hf, h.tt⟩
theorem RoleSetM.lo {w : World} {lo lo' : Nat} {e : RoleSetE} (h : RoleSetM w lo e) (hl : lo' ≤ lo) : RoleSetM w lo' e := ⟨h.m0.lo hl, h.m1.lo hl, h.m2.lo hl, h.tt⟩
theorem RoleSetM.keep {w w1 : World} {lo : Nat} {e : RoleSetE} (h : RoleSetM w lo e) (hb : Below w.heap.size w w1) : RoleSetM w1 lo e := h.fr (Fr.below hb lo)
set_option maxRecDepth 20000 in
set_option maxHeartbeats 2000000 in
theorem szRoleSet_n (e : RoleSetE) (left : Int) (w : World) (h0 : 0 ≤ left) (h1 : left ≤ 1048576) (ho : RoleSetN e.t) (hm : RoleSetM w 0 e) :
    Calls Tryz.prog 4 #[.agg #[.slice e.h0.a e.h0.len e.h0.cap, .slice e.h1.a e.h1.len e.h1.cap, .slice e.h2.a e.h2.len e.h2.cap], .int .i64 left] w fun r w' => (∃ m : Int, -1 ≤ m ∧ m ≤ left ∧ (0 ≤ m → RoleSetSm e.t) ∧ r = .returned (.int .i64 m)) ∧ Below w.heap.size w w' := by
  have q0 := hide (fun l w h0 h1 hs => szRoleS_n e.h0 e.t.f0 l w h0 h1 ho.o0 ho.l0 hs)
  have M0 := hide hm.m0
  have q1 := hide (fun l w h0 h1 hs => szApartS_n e.h1 e.t.f1 l w h0 h1 ho.o1 ho.l1 hs)
  have M1 := hide hm.m1
  have q2 := hide (fun l w h0 h1 hs => szStringS_n e.h2 e.t.f2 l w h0 h1 ho.o2 ho.l2 hs)
  have M2 := hide hm.m2
  have R := hide (RowIs.new w #[.slice e.h0.a e.h0.len e.h0.cap, .slice e.h1.a e.h1.len e.h1.cap, .slice e.h2.a e.h2.len e.h2.cap] 26)
  have B := hide (bAl (Below.refl w.heap.size w) (.cells #[.slice e.h0.a e.h0.len e.h0.cap, .slice e.h1.a e.h1.len e.h1.cap, .slice e.h2.a e.h2.len e.h2.cap] 26))
  clear ho hm
  go_enter Tryz.func4, Tryz.ntmps4
  go_wp2_with fail
  refine (unhide q0 _ _ (by omega) (by omega) ((unhide M0).keep (unhide B))).mono ?_
  rintro r w1 ⟨⟨m0, x0, y0, z0, rfl⟩, hb1⟩
  have Z0 := hide z0
  clear z0
  replace R := hide ((unhide R).keep hb1)
  replace B := hide (bTr (unhide B) hb1)
  clear hb1 
  by_cases e0 : m0 < 0
  · go_wp2_with fail
    go_ret
    exact ⟨⟨-1, by omega, by omega, by omega, rfl⟩, unhide B⟩
  have c1 := (unhide R).at (o := 1) (v := .slice e.h1.a e.h1.len e.h1.cap) rfl
  go_wp2_with fail
  refine (unhide q1 _ _ (by omega) (by omega) ((unhide M1).keep (unhide B))).mono ?_
  rintro r w2 ⟨⟨m1, x1, y1, z1, rfl⟩, hb1⟩
  have Z1 := hide z1
  clear z1
  replace R := hide ((unhide R).keep hb1)
  replace B := hide (bTr (unhide B) hb1)
  clear hb1 c1
  by_cases e1 : m1 < 0
  · go_wp2_with fail
    go_ret
    exact ⟨⟨-1, by omega, by omega, by omega, rfl⟩, unhide B⟩
  have c2 := (unhide R).at (o := 2) (v := .slice e.h2.a e.h2.len e.h2.cap) rfl
  go_wp2_with fail
  refine (unhide q2 _ _ (by omega) (by omega) ((unhide M2).keep (unhide B))).mono ?_
  rintro r w3 ⟨⟨m2, x2, y2, z2, rfl⟩, hb1⟩
  have Z2 := hide z2
  clear z2
  replace R := hide ((unhide R).keep hb1)
  replace B := hide (bTr (unhide B) hb1)
  clear hb1 c2
  by_cases e2 : m2 < 0
  · go_wp2_with fail
    go_ret
    exact ⟨⟨-1, by omega, by omega, by omega, rfl⟩, unhide B⟩
  go_wp2_with fail
  go_ret
  exact ⟨⟨_, by omega, by omega, fun _ => ⟨(unhide Z0 (by omega)).1, (unhide Z0 (by omega)).2, (unhide Z1 (by omega)).1, (unhide Z1 (by omega)).2, unhide Z2 (by omega), trivial⟩, rfl⟩, unhide B⟩

set_option maxRecDepth 40000 in
set_option maxHeartbeats 8000000 in
theorem toRoleSet_n (e : RoleSetE) (w : World) (hs : RoleSetSm e.t) (hm : RoleSetM w 0 e) :
    Calls Tryz.prog 7 #[.agg #[.slice e.h0.a e.h0.len e.h0.cap, .slice e.h1.a e.h1.len e.h1.cap, .slice e.h2.a e.h2.len e.h2.cap]] w fun r w' => (∃ e' : RoleSetE, e'.t = e.t ∧ r = .returned (.agg #[.slice e'.h0.a e'.h0.len e'.h0.cap, .slice e'.h1.a e'.h1.len e'.h1.cap, .slice e'.h2.a e'.h2.len e'.h2.cap]) ∧ RoleSetM w' w.heap.size e') ∧ Below w.heap.size w w' := by
  have q0 := hide (fun w hm => toRoleS_n e.h0 e.t.f0 w ⟨hs.l0, hs.o0⟩ hm)
  have M0 := hide hm.m0
  have q1 := hide (fun w hm => toApartS_n e.h1 e.t.f1 w ⟨hs.l1, hs.o1⟩ hm)
  have M1 := hide hm.m1
  have q2 := hide (fun w hm => toStringS_n e.h2 e.t.f2 w hs.l2 hm)
  have M2 := hide hm.m2
  clear hs hm
  obtain ⟨W0, hW0⟩ : ∃ W, W = ((w.alloc (.cells #[.slice e.h0.a e.h0.len e.h0.cap, .slice e.h1.a e.h1.len e.h1.cap, .slice e.h2.a e.h2.len e.h2.cap] 26)).alloc (.cells #[.slice none 0 0, .slice none 0 0, .slice none 0 0] 38)).alloc (.cells #[.slice none 0 0, .slice none 0 0, .slice none 0 0] 38) := ⟨_, rfl⟩
  have z0 : W0.heap.size = w.heap.size + 1 + 1 + 1 := by rw [hW0]; simp
  have b0 : Below w.heap.size w W0 := by rw [hW0]; exact bAl (bAl (bAl (Below.refl _ _) _) _) _
  have A0 : RowIs W0 w.heap.size #[.slice e.h0.a e.h0.len e.h0.cap, .slice e.h1.a e.h1.len e.h1.cap, .slice e.h2.a e.h2.len e.h2.cap] 26 := by rw [hW0]; exact ((RowIs.new w _ _).keep (bAl (Below.refl _ _) _)).keep (bAl (Below.refl _ _) _)
  have Z0 : RowIs W0 (w.heap.size + 1) #[.slice none 0 0, .slice none 0 0, .slice none 0 0] 38 := by
    rw [hW0]
    have := (RowIs.new (w.alloc (.cells #[.slice e.h0.a e.h0.len e.h0.cap, .slice e.h1.a e.h1.len e.h1.cap, .slice e.h2.a e.h2.len e.h2.cap] 26)) #[.slice none 0 0, .slice none 0 0, .slice none 0 0] 38).keep (bAl (Below.refl _ _) (.cells #[.slice none 0 0, .slice none 0 0, .slice none 0 0] 38))
    simpa using this
  have O0 : RowIs W0 (w.heap.size + 1 + 1) #[.slice none 0 0, .slice none 0 0, .slice none 0 0] 38 := by
    rw [hW0]
    have := RowIs.new ((w.alloc (.cells #[.slice e.h0.a e.h0.len e.h0.cap, .slice e.h1.a e.h1.len e.h1.cap, .slice e.h2.a e.h2.len e.h2.cap] 26)).alloc (.cells #[.slice none 0 0, .slice none 0 0, .slice none 0 0] 38)) #[.slice none 0 0, .slice none 0 0, .slice none 0 0] 38
    simpa using this
  have HW := hide hW0
  have hne1 : w.heap.size ≠ w.heap.size + 1 + 1 := by omega
  have hne2 : w.heap.size + 1 ≠ w.heap.size + 1 + 1 := by omega
  clear hW0
  go_enter Tryz.func7, Tryz.ntmps7
  go_wp2_with fail
  rw [← unhide HW]
  clear HW
  have Oh := hide O0
  clear O0
  have Zh := hide Z0
  clear Z0
  have Ah := hide A0
  clear A0
  have Bh := hide b0
  have Gh : Hid (w.heap.size + 3 ≤ W0.heap.size) := hide (by omega)
  clear b0 z0
  refine (unhide q0 _ ((unhide M0).keep (unhide Bh))).mono ?_
  rintro r v0 ⟨⟨k0, rfl, hk0⟩, hb1⟩
  have K0 := hide (hk0.lo (unhide Gh))
  clear hk0
  have Gn : Hid (w.heap.size + 3 ≤ v0.heap.size) := hide (Nat.le_trans (unhide Gh) hb1.size)
  clear Gh
  have Gh := Gn
  clear Gn
  replace Oh := hide ((unhide Oh).keep hb1)
  replace Zh := hide ((unhide Zh).keep hb1)
  replace Ah := hide ((unhide Ah).keep hb1)
  replace Bh := hide (bTr (unhide Bh) hb1)
  clear hb1
  have k_0 := (unhide Oh).at (o := 0) (v := .slice none 0 0) rfl
  have g_0 := (unhide Oh).froz 0
  have a_1 := (unhide Ah).at (o := 1) (v := .slice e.h1.a e.h1.len e.h1.cap) rfl
  obtain ⟨W1, hW⟩ : ∃ W, W = (v0.setCell ⟨w.heap.size + 1 + 1, 0, none⟩ (.slice k0.a k0.len k0.cap)) := ⟨_, rfl⟩
  have On : Hid (RowIs W1 (w.heap.size + 1 + 1) #[.slice k0.a k0.len k0.cap, .slice none 0 0, .slice none 0 0] 38) := hide (by have h := ((unhide Oh).set 0 (.slice k0.a k0.len k0.cap)); simp only [List.setIfInBounds_toArray, List.set_cons_zero, List.set_cons_succ] at h; rw [hW]; exact h)
  have Zn : Hid (RowIs W1 (w.heap.size + 1) #[.slice none 0 0, .slice none 0 0, .slice none 0 0] 38) := hide (by rw [hW]; exact ((unhide Zh).setOther (o' := 0) (.slice k0.a k0.len k0.cap) hne2))
  have An : Hid (RowIs W1 w.heap.size #[.slice e.h0.a e.h0.len e.h0.cap, .slice e.h1.a e.h1.len e.h1.cap, .slice e.h2.a e.h2.len e.h2.cap] 26) := hide (by rw [hW]; exact ((unhide Ah).setOther (o' := 0) (.slice k0.a k0.len k0.cap) hne1))
  have Bn : Hid (Below w.heap.size w W1) := hide (by rw [hW]; exact (bSt (unhide Bh) (b := w.heap.size + 1 + 1) (by omega) 0 (.slice k0.a k0.len k0.cap)))
  have Gn : Hid (w.heap.size + 3 ≤ W1.heap.size) := hide (by rw [hW]; simp only [size_sc]; exact unhide Gh)
  replace K0 := hide (show SqRole W1 (w.heap.size + 3) k0 e.t.f0 by rw [hW]; exact (unhide K0).fr ((Fr.below (Below.refl _ v0) _).sets (.slice k0.a k0.len k0.cap) (by omega)))
  have HW := hide hW.symm
  clear hW Oh Zh Ah Bh Gh
  have Oh := On
  clear On
  have Zh := Zn
  clear Zn
  have Ah := An
  clear An
  have Bh := Bn
  clear Bn
  have Gh := Gn
  clear Gn
  go_wp2_with fail
  rw [unhide HW]
  clear HW k_0 g_0 a_1
  refine (unhide q1 _ ((unhide M1).keep (unhide Bh))).mono ?_
  rintro r v1 ⟨⟨k1, rfl, hk1⟩, hb1⟩
  have K1 := hide (hk1.lo (unhide Gh))
  clear hk1
  have Gn : Hid (w.heap.size + 3 ≤ v1.heap.size) := hide (Nat.le_trans (unhide Gh) hb1.size)
  clear Gh
  have Gh := Gn
  clear Gn
  replace Oh := hide ((unhide Oh).keep hb1)
  replace Zh := hide ((unhide Zh).keep hb1)
  replace Ah := hide ((unhide Ah).keep hb1)
  replace Bh := hide (bTr (unhide Bh) hb1)
  replace K0 := hide ((unhide K0).keep hb1)
  clear hb1
  have k_1 := (unhide Oh).at (o := 1) (v := .slice none 0 0) rfl
  have g_1 := (unhide Oh).froz 1
  have a_2 := (unhide Ah).at (o := 2) (v := .slice e.h2.a e.h2.len e.h2.cap) rfl
  obtain ⟨W2, hW⟩ : ∃ W, W = (v1.setCell ⟨w.heap.size + 1 + 1, 1, none⟩ (.slice k1.a k1.len k1.cap)) := ⟨_, rfl⟩
  have On : Hid (RowIs W2 (w.heap.size + 1 + 1) #[.slice k0.a k0.len k0.cap, .slice k1.a k1.len k1.cap, .slice none 0 0] 38) := hide (by have h := ((unhide Oh).set 1 (.slice k1.a k1.len k1.cap)); simp only [List.setIfInBounds_toArray, List.set_cons_zero, List.set_cons_succ] at h; rw [hW]; exact h)
  have Zn : Hid (RowIs W2 (w.heap.size + 1) #[.slice none 0 0, .slice none 0 0, .slice none 0 0] 38) := hide (by rw [hW]; exact ((unhide Zh).setOther (o' := 1) (.slice k1.a k1.len k1.cap) hne2))
  have An : Hid (RowIs W2 w.heap.size #[.slice e.h0.a e.h0.len e.h0.cap, .slice e.h1.a e.h1.len e.h1.cap, .slice e.h2.a e.h2.len e.h2.cap] 26) := hide (by rw [hW]; exact ((unhide Ah).setOther (o' := 1) (.slice k1.a k1.len k1.cap) hne1))
  have Bn : Hid (Below w.heap.size w W2) := hide (by rw [hW]; exact (bSt (unhide Bh) (b := w.heap.size + 1 + 1) (by omega) 1 (.slice k1.a k1.len k1.cap)))
  have Gn : Hid (w.heap.size + 3 ≤ W2.heap.size) := hide (by rw [hW]; simp only [size_sc]; exact unhide Gh)
  replace K0 := hide (show SqRole W2 (w.heap.size + 3) k0 e.t.f0 by rw [hW]; exact (unhide K0).fr ((Fr.below (Below.refl _ v1) _).sets (.slice k1.a k1.len k1.cap) (by omega)))
  replace K1 := hide (show SqApart W2 (w.heap.size + 3) k1 e.t.f1 by rw [hW]; exact (unhide K1).fr ((Fr.below (Below.refl _ v1) _).sets (.slice k1.a k1.len k1.cap) (by omega)))
  have HW := hide hW.symm
  clear hW Oh Zh Ah Bh Gh
  have Oh := On
  clear On
  have Zh := Zn
  clear Zn
  have Ah := An
  clear An
  have Bh := Bn
  clear Bn
  have Gh := Gn
  clear Gn
  go_wp2_with fail
  rw [unhide HW]
  clear HW k_1 g_1 a_2
  refine (unhide q2 _ ((unhide M2).keep (unhide Bh))).mono ?_
  rintro r v2 ⟨⟨k2, rfl, hk2⟩, hb1⟩
  have K2 := hide (hk2.lo (unhide Gh))
  clear hk2
  have Gn : Hid (w.heap.size + 3 ≤ v2.heap.size) := hide (Nat.le_trans (unhide Gh) hb1.size)
  clear Gh
  have Gh := Gn
  clear Gn
  replace Oh := hide ((unhide Oh).keep hb1)
  replace Zh := hide ((unhide Zh).keep hb1)
  replace Ah := hide ((unhide Ah).keep hb1)
  replace Bh := hide (bTr (unhide Bh) hb1)
  replace K0 := hide ((unhide K0).keep hb1)
  replace K1 := hide ((unhide K1).keep hb1)
  clear hb1
  have k_2 := (unhide Oh).at (o := 2) (v := .slice none 0 0) rfl
  have g_2 := (unhide Oh).froz 2
  obtain ⟨W3, hW⟩ : ∃ W, W = (v2.setCell ⟨w.heap.size + 1 + 1, 2, none⟩ (.slice k2.a k2.len k2.cap)) := ⟨_, rfl⟩
  have On : Hid (RowIs W3 (w.heap.size + 1 + 1) #[.slice k0.a k0.len k0.cap, .slice k1.a k1.len k1.cap, .slice k2.a k2.len k2.cap] 38) := hide (by have h := ((unhide Oh).set 2 (.slice k2.a k2.len k2.cap)); simp only [List.setIfInBounds_toArray, List.set_cons_zero, List.set_cons_succ] at h; rw [hW]; exact h)
  have Zn : Hid (RowIs W3 (w.heap.size + 1) #[.slice none 0 0, .slice none 0 0, .slice none 0 0] 38) := hide (by rw [hW]; exact ((unhide Zh).setOther (o' := 2) (.slice k2.a k2.len k2.cap) hne2))
  have An : Hid (RowIs W3 w.heap.size #[.slice e.h0.a e.h0.len e.h0.cap, .slice e.h1.a e.h1.len e.h1.cap, .slice e.h2.a e.h2.len e.h2.cap] 26) := hide (by rw [hW]; exact ((unhide Ah).setOther (o' := 2) (.slice k2.a k2.len k2.cap) hne1))
  have Bn : Hid (Below w.heap.size w W3) := hide (by rw [hW]; exact (bSt (unhide Bh) (b := w.heap.size + 1 + 1) (by omega) 2 (.slice k2.a k2.len k2.cap)))
  have Gn : Hid (w.heap.size + 3 ≤ W3.heap.size) := hide (by rw [hW]; simp only [size_sc]; exact unhide Gh)
  replace K0 := hide (show SqRole W3 (w.heap.size + 3) k0 e.t.f0 by rw [hW]; exact (unhide K0).fr ((Fr.below (Below.refl _ v2) _).sets (.slice k2.a k2.len k2.cap) (by omega)))
  replace K1 := hide (show SqApart W3 (w.heap.size + 3) k1 e.t.f1 by rw [hW]; exact (unhide K1).fr ((Fr.below (Below.refl _ v2) _).sets (.slice k2.a k2.len k2.cap) (by omega)))
  replace K2 := hide (show SqS W3 (w.heap.size + 3) k2 e.t.f2 by rw [hW]; exact (unhide K2).fr ((Fr.below (Below.refl _ v2) _).sets (.slice k2.a k2.len k2.cap) (by omega)))
  have HW := hide hW.symm
  clear hW Oh Zh Ah Bh Gh
  have Oh := On
  clear On
  have Zh := Zn
  clear Zn
  have Ah := An
  clear An
  have Bh := Bn
  clear Bn
  have Gh := Gn
  clear Gn
  go_upto_region 5 with fail
  rw [unhide HW]
  clear HW k_2 g_2
  go_step
  refine wpList_load_row rfl 38 _ rfl (w.heap.size + 1 + 1) rfl 38 _ (0, 0) _ (unhide Oh) Tryz.underlying38 rfl (by kernel_rfl) ?_
  refine wpList_store_row rfl 38 _ _ rfl (w.heap.size + 1) #[.slice k0.a k0.len k0.cap, .slice k1.a k1.len k1.cap, .slice k2.a k2.len k2.cap] rfl rfl 38 _ (unhide Zh) (by kernel_rfl) rfl (by simp [Value.oneCell']) ?_
  have Z6 := hide (setRow_heap W3 (w.heap.size + 1) _ #[.slice k0.a k0.len k0.cap, .slice k1.a k1.len k1.cap, .slice k2.a k2.len k2.cap] _ _ (unhide Zh))
  go_wp2_with fail
  refine bodyPost_ret (v := .agg #[.slice k0.a k0.len k0.cap, .slice k1.a k1.len k1.cap, .slice k2.a k2.len k2.cap]) (results_cell_row rfl _ _ (w.heap.size + 1) 38 _ (0, 0) _ rfl (unhide Z6) Tryz.underlying38 rfl (by kernel_rfl)) rfl ⟨⟨⟨e.t, k0, k1, k2⟩, rfl, rfl, ⟨((unhide K0).fr ((Fr.below (Below.refl _ _) _).row _ (by omega))).lo (by omega), ((unhide K1).fr ((Fr.below (Below.refl _ _) _).row _ (by omega))).lo (by omega), ((unhide K2).fr ((Fr.below (Below.refl _ _) _).row _ (by omega))).lo (by omega), trivial⟩⟩, bRow (unhide Bh) (by omega) _⟩

set_option maxRecDepth 20000 in
set_option maxHeartbeats 2000000 in
theorem eqRoleSet_n (e1 e2 : RoleSetE) (w : World) (ht : e2.t = e1.t) (hn : RoleSetN e1.t) (m1 : RoleSetM w 0 e1) (m2 : RoleSetM w 0 e2) :
    Calls Tryz.prog 11 #[.agg #[.slice e1.h0.a e1.h0.len e1.h0.cap, .slice e1.h1.a e1.h1.len e1.h1.cap, .slice e1.h2.a e1.h2.len e1.h2.cap], .agg #[.slice e2.h0.a e2.h0.len e2.h0.cap, .slice e2.h1.a e2.h1.len e2.h1.cap, .slice e2.h2.a e2.h2.len e2.h2.cap]] w fun r w' => r = .returned (.bool true) ∧ Below w.heap.size w w' := by
  obtain ⟨t, h0, h1, h2⟩ := e1
  obtain ⟨t', g0, g1, g2⟩ := e2
  simp only at ht
  subst ht
  have q0 := hide (fun w u1 u2 => eqRoleS_n h0 g0 t'.f0 w hn.l0 hn.o0 u1 u2)
  have M0 := hide m1.m0
  have P0 := hide m2.m0
  have q1 := hide (fun w u1 u2 => eqApartS_n h1 g1 t'.f1 w hn.l1 hn.o1 u1 u2)
  have M1 := hide m1.m1
  have P1 := hide m2.m1
  have q2 := hide (fun w u1 u2 => eqStringS_n h2 g2 t'.f2 w hn.l2 u1 u2)
  have M2 := hide m1.m2
  have P2 := hide m2.m2
  have X := hide ((RowIs.new w #[.slice h0.a h0.len h0.cap, .slice h1.a h1.len h1.cap, .slice h2.a h2.len h2.cap] 38).keep (bAl (Below.refl _ _) (.cells #[.slice g0.a g0.len g0.cap, .slice g1.a g1.len g1.cap, .slice g2.a g2.len g2.cap] 38)))
  have Y : Hid (RowIs ((w.alloc (.cells #[.slice h0.a h0.len h0.cap, .slice h1.a h1.len h1.cap, .slice h2.a h2.len h2.cap] 38)).alloc (.cells #[.slice g0.a g0.len g0.cap, .slice g1.a g1.len g1.cap, .slice g2.a g2.len g2.cap] 38)) (w.heap.size + 1) #[.slice g0.a g0.len g0.cap, .slice g1.a g1.len g1.cap, .slice g2.a g2.len g2.cap] 38) := hide (by have := RowIs.new (w.alloc (.cells #[.slice h0.a h0.len h0.cap, .slice h1.a h1.len h1.cap, .slice h2.a h2.len h2.cap] 38)) #[.slice g0.a g0.len g0.cap, .slice g1.a g1.len g1.cap, .slice g2.a g2.len g2.cap] 38; simpa using this)
  have B := hide (bAl (bAl (Below.refl w.heap.size w) (.cells #[.slice h0.a h0.len h0.cap, .slice h1.a h1.len h1.cap, .slice h2.a h2.len h2.cap] 38)) (.cells #[.slice g0.a g0.len g0.cap, .slice g1.a g1.len g1.cap, .slice g2.a g2.len g2.cap] 38))
  clear m1 m2 hn
  go_enter Tryz.func11, Tryz.ntmps11
  go_wp2_with fail
  refine (unhide q0 _ ((unhide M0).keep (unhide B)) ((unhide P0).keep (unhide B))).mono ?_
  rintro r w1 ⟨rfl, hb1⟩
  replace X := hide ((unhide X).keep hb1)
  replace Y := hide ((unhide Y).keep hb1)
  replace B := hide (bTr (unhide B) hb1)
  clear hb1 
  have c1 := (unhide X).at (o := 1) (v := .slice h1.a h1.len h1.cap) rfl
  have d1 := (unhide Y).at (o := 1) (v := .slice g1.a g1.len g1.cap) rfl
  go_wp2_with fail
  refine (unhide q1 _ ((unhide M1).keep (unhide B)) ((unhide P1).keep (unhide B))).mono ?_
  rintro r w2 ⟨rfl, hb1⟩
  replace X := hide ((unhide X).keep hb1)
  replace Y := hide ((unhide Y).keep hb1)
  replace B := hide (bTr (unhide B) hb1)
  clear hb1 c1 d1
  have c2 := (unhide X).at (o := 2) (v := .slice h2.a h2.len h2.cap) rfl
  have d2 := (unhide Y).at (o := 2) (v := .slice g2.a g2.len g2.cap) rfl
  go_wp2_with fail
  refine (unhide q2 _ ((unhide M2).keep (unhide B)) ((unhide P2).keep (unhide B))).mono ?_
  rintro r w3 ⟨rfl, hb1⟩
  replace X := hide ((unhide X).keep hb1)
  replace Y := hide ((unhide Y).keep hb1)
  replace B := hide (bTr (unhide B) hb1)
  clear hb1 c2 d2
  go_wp2_with fail
  go_ret
  exact ⟨rfl, unhide B⟩

theorem listcRoleSet {α : Type} {l : List α} (h : l.length = 3) : ∃ a0 a1 a2, l = [a0, a1, a2] := by
  match l, h with
  | [a0, a1, a2], _ => exact ⟨a0, a1, a2, rfl⟩
theorem listfRoleSet {α : Type} {l : List α} (h : l.length = 3) : ∃ a0 a1 a2, l = [a0, a1, a2] := by
  match l, h with
  | [a0, a1, a2], _ => exact ⟨a0, a1, a2, rfl⟩
section
variable {H : Type} {enc : TypeId × Value → H} {w : World} {base : Nat} {sp : Nat → Bool} {held : Bool}
set_option maxRecDepth 100000 in
theorem read_RoleSet {n : Nat} {cs : List Value} {x : DataW H × List MemPlace} (h : DataW.trod enc Tryz.prog w base sp held n 26 cs = some x) : ∃ e : RoleSetE, cs = [.slice e.h0.a e.h0.len e.h0.cap, .slice e.h1.a e.h1.len e.h1.cap, .slice e.h2.a e.h2.len e.h2.cap] ∧ RoleSetN e.t ∧ RoleSetM w 0 e := by
  obtain ⟨xs, m, rfl, _, hlen, hx, hf⟩ := DataW.trod_struct Tryz.underlying26 h
  have hc : Tryz.prog.cellsOf 26 = 3 := by kernel_rfl
  have ky0 : Tryz.prog.cellsOf 23 = 1 := by kernel_rfl
  have ky1 : Tryz.prog.cellsOf 22 = 1 := by kernel_rfl
  have ky2 : Tryz.prog.cellsOf 24 = 1 := by kernel_rfl
  obtain ⟨c0, c1, c2, rfl⟩ := listcRoleSet (hlen.trans hc)
  obtain ⟨x0, x1, x2, rfl⟩ := listfRoleSet hx
  have h0 : DataW.trod enc Tryz.prog w base sp held m 22 [c0] = some x0 := by have := hf 0 _ rfl; simpa [ky0, ky1, ky2] using this
  have g0 : ∃ a l c, c0 = .slice a l c := by
    rcases Go.Deep.open_slice Tryz.underlying22 h0 with ⟨hcs, _⟩ | ⟨a', len', cap', _, _, _, _, hcs, _⟩
    · simp at hcs; exact ⟨_, _, _, hcs⟩
    · simp at hcs; exact ⟨_, _, _, hcs⟩
  obtain ⟨a0, b0, d0, rfl⟩ := g0
  obtain ⟨y0, s0, ok0, ml0⟩ := readsRole h0
  have h1 : DataW.trod enc Tryz.prog w base sp held m 23 [c1] = some x1 := by have := hf 1 _ rfl; simpa [ky0, ky1, ky2] using this
  have g1 : ∃ a l c, c1 = .slice a l c := by
    rcases Go.Deep.open_slice Tryz.underlying23 h1 with ⟨hcs, _⟩ | ⟨a', len', cap', _, _, _, _, hcs, _⟩
    · simp at hcs; exact ⟨_, _, _, hcs⟩
    · simp at hcs; exact ⟨_, _, _, hcs⟩
  obtain ⟨a1, b1, d1, rfl⟩ := g1
  obtain ⟨y1, s1, ok1, ml1⟩ := readsApart h1
  have h2 : DataW.trod enc Tryz.prog w base sp held m 24 [c2] = some x2 := by have := hf 2 _ rfl; simpa [ky0, ky1, ky2] using this
  have g2 : ∃ a l c, c2 = .slice a l c := by
    rcases Go.Deep.open_slice Tryz.underlying24 h2 with ⟨hcs, _⟩ | ⟨a', len', cap', _, _, _, _, hcs, _⟩
    · simp at hcs; exact ⟨_, _, _, hcs⟩
    · simp at hcs; exact ⟨_, _, _, hcs⟩
  obtain ⟨a2, b2, d2, rfl⟩ := g2
  obtain ⟨y2, s2, ok2, ml2⟩ := readsS h2
  exact ⟨⟨⟨y0, y1, y2⟩, ⟨a0, b0, d0⟩, ⟨a1, b1, d1⟩, ⟨a2, b2, d2⟩⟩, rfl, ⟨ok0, ml0, ok1, ml1, ok2, ml2, trivial⟩, ⟨s0, s1, s2, trivial⟩⟩
set_option maxRecDepth 100000 in
theorem came_RoleSet {r : Reach} {b0 : Nat} {v0 : Value} {d : DataW H} {q : List MemPlace} (hv : Value.okWide Tryz.prog w r b0 26 v0) (h : DataW.Trod enc Tryz.prog w base sp held 26 v0 d q) : ∃ e : RoleSetE, v0 = .agg #[.slice e.h0.a e.h0.len e.h0.cap, .slice e.h1.a e.h1.len e.h1.cap, .slice e.h2.a e.h2.len e.h2.cap] ∧ RoleSetN e.t ∧ RoleSetM w 0 e := by
  obtain ⟨cs, rfl, _⟩ := okWide_struct Tryz.underlying26 hv
  obtain ⟨fuel, hf0⟩ := h
  obtain ⟨e, h1, h2, h3⟩ := read_RoleSet hf0
  refine ⟨e, ?_, h2, h3⟩
  obtain ⟨l⟩ := cs
  simp only [Value.cells] at h1
  rw [h1]
end
end Go.Proofs.YtfbncneeimikcaaGreat.V
