/- ZVa, ZTh, one behind the other. -/
import Derived.Test.YtpfekkhnjaopdaaGreatJ13
/- impl.Value in memory, by what it holds: sized, copied, held against itself, read. -/
namespace Go.Proofs.YtpfekkhnjaopdaaGreat.V
set_option linter.unusedSimpArgs false
open Go.ChangeShapes Go.WideShapes Go.RowKit

structure ValueE where
  t : ValT
  h2 : Hd
  h3 : Hd
structure ValueN (x : ValT) : Prop where
  o1 : x.a.Ok
  o2 : ∀ q ∈ x.items, AtomT.Ok q
  l2 : x.items.length ≤ maxLen
  o3 : ∀ q ∈ x.names, ByteArray.size q ≤ maxLen
  l3 : x.names.length ≤ maxLen
  tt : True
structure ValueSm (x : ValT) : Prop where
  l2 : x.items.length ≤ 1048576
  l3 : x.names.length ≤ 1048576
  tt : True
structure ValueM (w : World) (lo : Nat) (e : ValueE) : Prop where
  m2 : SqA w lo e.h2 e.t.items
  m3 : SqS w lo e.h3 e.t.names
  tt : True
theorem ValueM.fr {w w1 : World} {lo : Nat} {e : ValueE} (h : ValueM w lo e) (hf : Fr lo w w1) : ValueM w1 lo e := ⟨h.m2.fr hf, h.m3.fr hf, h.tt⟩
theorem ValueM.lo {w : World} {lo lo' : Nat} {e : ValueE} (h : ValueM w lo e) (hl : lo' ≤ lo) : ValueM w lo' e := ⟨h.m2.lo hl, h.m3.lo hl, h.tt⟩
theorem ValueM.keep {w w1 : World} {lo : Nat} {e : ValueE} (h : ValueM w lo e) (hb : Below w.heap.size w w1) : ValueM w1 lo e := h.fr (Fr.below hb lo)
structure ValueRow (w : World) (b off : Nat) (l : List ValueE) : Prop where
  z : b < w.heap.size
  c0 : ∀ i (h : i < l.length), w.cell? ⟨b, off + i * 7, none⟩ = some (.int .i64 l[i].t.k)
  c1 : ∀ i (h : i < l.length), w.cell? ⟨b, off + i * 7 + 1, none⟩ = some (.int .i64 l[i].t.a.x)
  c2 : ∀ i (h : i < l.length), w.cell? ⟨b, off + i * 7 + 2, none⟩ = some (.int .i64 l[i].t.a.n)
  c3 : ∀ i (h : i < l.length), w.cell? ⟨b, off + i * 7 + 3, none⟩ = some (.string l[i].t.a.t)
  c4 : ∀ i (h : i < l.length), w.cell? ⟨b, off + i * 7 + 4, none⟩ = some (.string l[i].t.a.y)
  c5 : ∀ i (h : i < l.length), w.cell? ⟨b, off + i * 7 + 5, none⟩ = some (.slice l[i].h2.a l[i].h2.len l[i].h2.cap)
  c6 : ∀ i (h : i < l.length), w.cell? ⟨b, off + i * 7 + 6, none⟩ = some (.slice l[i].h3.a l[i].h3.len l[i].h3.cap)
theorem ValueRow.fr {w w1 : World} {lo b off : Nat} {l : List ValueE} (h : ValueRow w b off l) (hf : Fr lo w w1) (hb : lo ≤ b) : ValueRow w1 b off l :=
  ⟨Nat.lt_of_lt_of_le h.z hf.size, fun i hi => hf.cell _ _ _ hb (h.c0 i hi), fun i hi => hf.cell _ _ _ hb (h.c1 i hi), fun i hi => hf.cell _ _ _ hb (h.c2 i hi), fun i hi => hf.cell _ _ _ hb (h.c3 i hi), fun i hi => hf.cell _ _ _ hb (h.c4 i hi), fun i hi => hf.cell _ _ _ hb (h.c5 i hi), fun i hi => hf.cell _ _ _ hb (h.c6 i hi)⟩
/-- A slice of these: the rows, and what each of them holds. -/
def SqValueE (w : World) (lo : Nat) (h : Hd) (l : List ValueE) : Prop := h.len = l.length ∧ (l = [] ∨ ∃ b off, h.a = some ⟨b, off, none⟩ ∧ Lo w lo b ∧ ValueRow w b off l) ∧ ∀ e ∈ l, ValueM w lo e
theorem SqValueE.fr {w w1 : World} {lo : Nat} {h : Hd} {l : List ValueE} (s : SqValueE w lo h l) (hf : Fr lo w w1) : SqValueE w1 lo h l :=
  ⟨s.1, s.2.1.imp id fun ⟨b, off, e, hb, r⟩ => ⟨b, off, e, hb.fr hf r.z, r.fr hf hb.1⟩, fun e he => (s.2.2 e he).fr hf⟩
theorem SqValueE.lo {w : World} {lo lo' : Nat} {h : Hd} {l : List ValueE} (s : SqValueE w lo h l) (hl : lo' ≤ lo) : SqValueE w lo' h l :=
  ⟨s.1, s.2.1.imp id fun ⟨b, off, e, hb, r⟩ => ⟨b, off, e, hb.lo hl, r⟩, fun e he => (s.2.2 e he).lo hl⟩
theorem SqValueE.keep {w w1 : World} {lo : Nat} {h : Hd} {l : List ValueE} (s : SqValueE w lo h l) (hb : Below w.heap.size w w1) : SqValueE w1 lo h l := s.fr (Fr.below hb lo)
theorem SqValueE.at {w : World} {lo : Nat} {h : Hd} {l : List ValueE} (s : SqValueE w lo h l) {k : Nat} (hk : k < h.len) : ∃ b off, h.a = some ⟨b, off, none⟩ ∧ ValueRow w b off l := by
  rcases s.2.1 with e | ⟨b, off, e, _, r⟩
  · rw [s.1, e] at hk; simp at hk
  · exact ⟨b, off, e, r⟩
def SqValue (w : World) (lo : Nat) (h : Hd) (xs : List ValT) : Prop := ∃ l : List ValueE, l.map (·.t) = xs ∧ SqValueE w lo h l
theorem SqValue.fr {w w1 : World} {lo : Nat} {h : Hd} {xs : List ValT} (s : SqValue w lo h xs) (hf : Fr lo w w1) : SqValue w1 lo h xs := ⟨s.choose, s.choose_spec.1, s.choose_spec.2.fr hf⟩
theorem SqValue.lo {w : World} {lo lo' : Nat} {h : Hd} {xs : List ValT} (s : SqValue w lo h xs) (hl : lo' ≤ lo) : SqValue w lo' h xs := ⟨s.choose, s.choose_spec.1, s.choose_spec.2.lo hl⟩
theorem SqValue.keep {w w1 : World} {lo : Nat} {h : Hd} {xs : List ValT} (s : SqValue w lo h xs) (hb : Below w.heap.size w w1) : SqValue w1 lo h xs := s.fr (Fr.below hb lo)
theorem SqValue.len {w : World} {lo : Nat} {h : Hd} {xs : List ValT} (s : SqValue w lo h xs) : h.len = xs.length := by
  obtain ⟨l, rfl, s⟩ := s
  rw [s.1]; simp

set_option maxRecDepth 20000 in
set_option maxHeartbeats 2000000 in
theorem szValue_n (e : ValueE) (left : Int) (w : World) (h0 : 0 ≤ left) (h1 : left ≤ 1048576) (ho : ValueN e.t) (hm : ValueM w 0 e) :
    Calls Tryz.prog 71 #[.agg #[.int .i64 e.t.k, .int .i64 e.t.a.x, .int .i64 e.t.a.n, .string e.t.a.t, .string e.t.a.y, .slice e.h2.a e.h2.len e.h2.cap, .slice e.h3.a e.h3.len e.h3.cap], .int .i64 left] w fun r w' => (∃ m : Int, -1 ≤ m ∧ m ≤ left ∧ (0 ≤ m → ValueSm e.t) ∧ r = .returned (.int .i64 m)) ∧ Below w.heap.size w w' := by
  have q1 := hide (fun l w h0 h1 => szAtom_any e.t.a.x e.t.a.n l e.t.a.t e.t.a.y w h0 h1 ho.o1.t9 ho.o1.y9)
  have q2 := hide (fun l w h0 h1 hs => szAtomS_n e.h2 e.t.items l w h0 h1 ho.o2 ho.l2 hs)
  have M2 := hide hm.m2
  have q3 := hide (fun l w h0 h1 hs => szStringS_n e.h3 e.t.names l w h0 h1 ho.o3 ho.l3 hs)
  have M3 := hide hm.m3
  have R := hide (RowIs.new w #[.int .i64 e.t.k, .int .i64 e.t.a.x, .int .i64 e.t.a.n, .string e.t.a.t, .string e.t.a.y, .slice e.h2.a e.h2.len e.h2.cap, .slice e.h3.a e.h3.len e.h3.cap] 107)
  have B := hide (bAl (Below.refl w.heap.size w) (.cells #[.int .i64 e.t.k, .int .i64 e.t.a.x, .int .i64 e.t.a.n, .string e.t.a.t, .string e.t.a.y, .slice e.h2.a e.h2.len e.h2.cap, .slice e.h3.a e.h3.len e.h3.cap] 107))
  clear ho hm
  go_enter Tryz.func71, Tryz.ntmps71
  go_wp2_with fail
  refine (unhide q1 _ _ (by omega) (by omega)).mono ?_
  rintro r w1 ⟨⟨m1, x1, y1, rfl⟩, hb1⟩
  replace R := hide ((unhide R).keep hb1)
  replace B := hide (bTr (unhide B) hb1)
  clear hb1 
  by_cases e1 : m1 < 0
  · go_wp2_with fail
    go_ret
    exact ⟨⟨-1, by omega, by omega, by omega, rfl⟩, unhide B⟩
  have c5 := (unhide R).at (o := 5) (v := .slice e.h2.a e.h2.len e.h2.cap) rfl
  go_wp2_with fail
  refine (unhide q2 _ _ (by omega) (by omega) ((unhide M2).keep (unhide B))).mono ?_
  rintro r w2 ⟨⟨m2, x2, y2, z2, rfl⟩, hb1⟩
  have Z2 := hide z2
  clear z2
  replace R := hide ((unhide R).keep hb1)
  replace B := hide (bTr (unhide B) hb1)
  clear hb1 c5
  by_cases e2 : m2 < 0
  · go_wp2_with fail
    go_ret
    exact ⟨⟨-1, by omega, by omega, by omega, rfl⟩, unhide B⟩
  have c6 := (unhide R).at (o := 6) (v := .slice e.h3.a e.h3.len e.h3.cap) rfl
  go_wp2_with fail
  refine (unhide q3 _ _ (by omega) (by omega) ((unhide M3).keep (unhide B))).mono ?_
  rintro r w3 ⟨⟨m3, x3, y3, z3, rfl⟩, hb1⟩
  have Z3 := hide z3
  clear z3
  replace R := hide ((unhide R).keep hb1)
  replace B := hide (bTr (unhide B) hb1)
  clear hb1 c6
  by_cases e3 : m3 < 0
  · go_wp2_with fail
    go_ret
    exact ⟨⟨-1, by omega, by omega, by omega, rfl⟩, unhide B⟩
  go_wp2_with fail
  go_ret
  exact ⟨⟨_, by omega, by omega, fun _ => ⟨unhide Z2 (by omega), unhide Z3 (by omega), trivial⟩, rfl⟩, unhide B⟩

set_option maxRecDepth 40000 in
set_option maxHeartbeats 8000000 in
theorem toValue_n (e : ValueE) (w : World) (hs : ValueSm e.t) (hm : ValueM w 0 e) :
    Calls Tryz.prog 78 #[.agg #[.int .i64 e.t.k, .int .i64 e.t.a.x, .int .i64 e.t.a.n, .string e.t.a.t, .string e.t.a.y, .slice e.h2.a e.h2.len e.h2.cap, .slice e.h3.a e.h3.len e.h3.cap]] w fun r w' => (∃ e' : ValueE, e'.t = e.t ∧ r = .returned (.agg #[.int .i64 e'.t.k, .int .i64 e'.t.a.x, .int .i64 e'.t.a.n, .string e'.t.a.t, .string e'.t.a.y, .slice e'.h2.a e'.h2.len e'.h2.cap, .slice e'.h3.a e'.h3.len e'.h3.cap]) ∧ ValueM w' w.heap.size e') ∧ Below w.heap.size w w' := by
  have q2 := hide (fun w hm => toAtomS_n e.h2 e.t.items w hs.l2 hm)
  have M2 := hide hm.m2
  have q3 := hide (fun w hm => toStringS_n e.h3 e.t.names w hs.l3 hm)
  have M3 := hide hm.m3
  clear hs hm
  obtain ⟨W0, hW0⟩ : ∃ W, W = ((w.alloc (.cells #[.int .i64 e.t.k, .int .i64 e.t.a.x, .int .i64 e.t.a.n, .string e.t.a.t, .string e.t.a.y, .slice e.h2.a e.h2.len e.h2.cap, .slice e.h3.a e.h3.len e.h3.cap] 107)).alloc (.cells #[.int .i64 0, .int .i64 0, .int .i64 0, .string ⟨#[]⟩, .string ⟨#[]⟩, .slice none 0 0, .slice none 0 0] 103)).alloc (.cells #[.int .i64 e.t.k, .int .i64 0, .int .i64 0, .string ⟨#[]⟩, .string ⟨#[]⟩, .slice none 0 0, .slice none 0 0] 103) := ⟨_, rfl⟩
  have z0 : W0.heap.size = w.heap.size + 1 + 1 + 1 := by rw [hW0]; simp
  have b0 : Below w.heap.size w W0 := by rw [hW0]; exact bAl (bAl (bAl (Below.refl _ _) _) _) _
  have A0 : RowIs W0 w.heap.size #[.int .i64 e.t.k, .int .i64 e.t.a.x, .int .i64 e.t.a.n, .string e.t.a.t, .string e.t.a.y, .slice e.h2.a e.h2.len e.h2.cap, .slice e.h3.a e.h3.len e.h3.cap] 107 := by rw [hW0]; exact ((RowIs.new w _ _).keep (bAl (Below.refl _ _) _)).keep (bAl (Below.refl _ _) _)
  have Z0 : RowIs W0 (w.heap.size + 1) #[.int .i64 0, .int .i64 0, .int .i64 0, .string ⟨#[]⟩, .string ⟨#[]⟩, .slice none 0 0, .slice none 0 0] 103 := by
    rw [hW0]
    have := (RowIs.new (w.alloc (.cells #[.int .i64 e.t.k, .int .i64 e.t.a.x, .int .i64 e.t.a.n, .string e.t.a.t, .string e.t.a.y, .slice e.h2.a e.h2.len e.h2.cap, .slice e.h3.a e.h3.len e.h3.cap] 107)) #[.int .i64 0, .int .i64 0, .int .i64 0, .string ⟨#[]⟩, .string ⟨#[]⟩, .slice none 0 0, .slice none 0 0] 103).keep (bAl (Below.refl _ _) (.cells #[.int .i64 e.t.k, .int .i64 0, .int .i64 0, .string ⟨#[]⟩, .string ⟨#[]⟩, .slice none 0 0, .slice none 0 0] 103))
    simpa using this
  have O0 : RowIs W0 (w.heap.size + 1 + 1) #[.int .i64 e.t.k, .int .i64 0, .int .i64 0, .string ⟨#[]⟩, .string ⟨#[]⟩, .slice none 0 0, .slice none 0 0] 103 := by
    rw [hW0]
    have := RowIs.new ((w.alloc (.cells #[.int .i64 e.t.k, .int .i64 e.t.a.x, .int .i64 e.t.a.n, .string e.t.a.t, .string e.t.a.y, .slice e.h2.a e.h2.len e.h2.cap, .slice e.h3.a e.h3.len e.h3.cap] 107)).alloc (.cells #[.int .i64 0, .int .i64 0, .int .i64 0, .string ⟨#[]⟩, .string ⟨#[]⟩, .slice none 0 0, .slice none 0 0] 103)) #[.int .i64 e.t.k, .int .i64 0, .int .i64 0, .string ⟨#[]⟩, .string ⟨#[]⟩, .slice none 0 0, .slice none 0 0] 103
    simpa using this
  have HW := hide hW0
  have hne1 : w.heap.size ≠ w.heap.size + 1 + 1 := by omega
  have hne2 : w.heap.size + 1 ≠ w.heap.size + 1 + 1 := by omega
  clear hW0
  go_enter Tryz.func78, Tryz.ntmps78
  go_wp2_with fail
  rw [← unhide HW]
  clear HW
  have Oh := hide O0
  clear O0
  have Zh := hide Z0
  clear Z0
  have Ah := hide A0
  clear A0
  have Bh := hide b0
  have Gh : Hid (w.heap.size + 3 ≤ W0.heap.size) := hide (by omega)
  clear b0 z0
  refine (toAtom_any e.t.a.x e.t.a.n e.t.a.t e.t.a.y _).mono ?_
  rintro r v1 ⟨rfl, hb1⟩
  have Gn : Hid (w.heap.size + 3 ≤ v1.heap.size) := hide (Nat.le_trans (unhide Gh) hb1.size)
  clear Gh
  have Gh := Gn
  clear Gn
  replace Oh := hide ((unhide Oh).keep hb1)
  replace Zh := hide ((unhide Zh).keep hb1)
  replace Ah := hide ((unhide Ah).keep hb1)
  replace Bh := hide (bTr (unhide Bh) hb1)
  clear hb1
  have k_1 := (unhide Oh).at (o := 1) (v := .int .i64 0) rfl
  have g_1 := (unhide Oh).froz 1
  have k_2 := (unhide Oh).at (o := 2) (v := .int .i64 0) rfl
  have g_2 := (unhide Oh).froz 2
  have k_3 := (unhide Oh).at (o := 3) (v := .string ⟨#[]⟩) rfl
  have g_3 := (unhide Oh).froz 3
  have k_4 := (unhide Oh).at (o := 4) (v := .string ⟨#[]⟩) rfl
  have g_4 := (unhide Oh).froz 4
  have a_5 := (unhide Ah).at (o := 5) (v := .slice e.h2.a e.h2.len e.h2.cap) rfl
  obtain ⟨W1, hW⟩ : ∃ W, W = ((((v1.setCell ⟨w.heap.size + 1 + 1, 1, none⟩ (.int .i64 e.t.a.x)).setCell ⟨w.heap.size + 1 + 1, 2, none⟩ (.int .i64 e.t.a.n)).setCell ⟨w.heap.size + 1 + 1, 3, none⟩ (.string e.t.a.t)).setCell ⟨w.heap.size + 1 + 1, 4, none⟩ (.string e.t.a.y)) := ⟨_, rfl⟩
  have On : Hid (RowIs W1 (w.heap.size + 1 + 1) #[.int .i64 e.t.k, .int .i64 e.t.a.x, .int .i64 e.t.a.n, .string e.t.a.t, .string e.t.a.y, .slice none 0 0, .slice none 0 0] 103) := hide (by have h := (((((unhide Oh).set 1 (.int .i64 e.t.a.x)).set 2 (.int .i64 e.t.a.n)).set 3 (.string e.t.a.t)).set 4 (.string e.t.a.y)); simp only [List.setIfInBounds_toArray, List.set_cons_zero, List.set_cons_succ] at h; rw [hW]; exact h)
  have Zn : Hid (RowIs W1 (w.heap.size + 1) #[.int .i64 0, .int .i64 0, .int .i64 0, .string ⟨#[]⟩, .string ⟨#[]⟩, .slice none 0 0, .slice none 0 0] 103) := hide (by rw [hW]; exact (((((unhide Zh).setOther (o' := 1) (.int .i64 e.t.a.x) hne2).setOther (o' := 2) (.int .i64 e.t.a.n) hne2).setOther (o' := 3) (.string e.t.a.t) hne2).setOther (o' := 4) (.string e.t.a.y) hne2))
  have An : Hid (RowIs W1 w.heap.size #[.int .i64 e.t.k, .int .i64 e.t.a.x, .int .i64 e.t.a.n, .string e.t.a.t, .string e.t.a.y, .slice e.h2.a e.h2.len e.h2.cap, .slice e.h3.a e.h3.len e.h3.cap] 107) := hide (by rw [hW]; exact (((((unhide Ah).setOther (o' := 1) (.int .i64 e.t.a.x) hne1).setOther (o' := 2) (.int .i64 e.t.a.n) hne1).setOther (o' := 3) (.string e.t.a.t) hne1).setOther (o' := 4) (.string e.t.a.y) hne1))
  have Bn : Hid (Below w.heap.size w W1) := hide (by rw [hW]; exact (bSt (bSt (bSt (bSt (unhide Bh) (b := w.heap.size + 1 + 1) (by omega) 1 (.int .i64 e.t.a.x)) (b := w.heap.size + 1 + 1) (by omega) 2 (.int .i64 e.t.a.n)) (b := w.heap.size + 1 + 1) (by omega) 3 (.string e.t.a.t)) (b := w.heap.size + 1 + 1) (by omega) 4 (.string e.t.a.y)))
  have Gn : Hid (w.heap.size + 3 ≤ W1.heap.size) := hide (by rw [hW]; simp only [size_sc]; exact unhide Gh)
  have HW := hide hW.symm
  clear hW Oh Zh Ah Bh Gh
  have Oh := On
  clear On
  have Zh := Zn
  clear Zn
  have Ah := An
  clear An
  have Bh := Bn
  clear Bn
  have Gh := Gn
  clear Gn
  go_wp2_with fail
  rw [unhide HW]
  clear HW k_1 g_1 k_2 g_2 k_3 g_3 k_4 g_4 a_5
  refine (unhide q2 _ ((unhide M2).keep (unhide Bh))).mono ?_
  rintro r v2 ⟨⟨k2, rfl, hk2⟩, hb1⟩
  have K2 := hide (hk2.lo (unhide Gh))
  clear hk2
  have Gn : Hid (w.heap.size + 3 ≤ v2.heap.size) := hide (Nat.le_trans (unhide Gh) hb1.size)
  clear Gh
  have Gh := Gn
  clear Gn
  replace Oh := hide ((unhide Oh).keep hb1)
  replace Zh := hide ((unhide Zh).keep hb1)
  replace Ah := hide ((unhide Ah).keep hb1)
  replace Bh := hide (bTr (unhide Bh) hb1)
  clear hb1
  have k_5 := (unhide Oh).at (o := 5) (v := .slice none 0 0) rfl
  have g_5 := (unhide Oh).froz 5
  have a_6 := (unhide Ah).at (o := 6) (v := .slice e.h3.a e.h3.len e.h3.cap) rfl
  obtain ⟨W2, hW⟩ : ∃ W, W = (v2.setCell ⟨w.heap.size + 1 + 1, 5, none⟩ (.slice k2.a k2.len k2.cap)) := ⟨_, rfl⟩
  have On : Hid (RowIs W2 (w.heap.size + 1 + 1) #[.int .i64 e.t.k, .int .i64 e.t.a.x, .int .i64 e.t.a.n, .string e.t.a.t, .string e.t.a.y, .slice k2.a k2.len k2.cap, .slice none 0 0] 103) := hide (by have h := ((unhide Oh).set 5 (.slice k2.a k2.len k2.cap)); simp only [List.setIfInBounds_toArray, List.set_cons_zero, List.set_cons_succ] at h; rw [hW]; exact h)
  have Zn : Hid (RowIs W2 (w.heap.size + 1) #[.int .i64 0, .int .i64 0, .int .i64 0, .string ⟨#[]⟩, .string ⟨#[]⟩, .slice none 0 0, .slice none 0 0] 103) := hide (by rw [hW]; exact ((unhide Zh).setOther (o' := 5) (.slice k2.a k2.len k2.cap) hne2))
  have An : Hid (RowIs W2 w.heap.size #[.int .i64 e.t.k, .int .i64 e.t.a.x, .int .i64 e.t.a.n, .string e.t.a.t, .string e.t.a.y, .slice e.h2.a e.h2.len e.h2.cap, .slice e.h3.a e.h3.len e.h3.cap] 107) := hide (by rw [hW]; exact ((unhide Ah).setOther (o' := 5) (.slice k2.a k2.len k2.cap) hne1))
  have Bn : Hid (Below w.heap.size w W2) := hide (by rw [hW]; exact (bSt (unhide Bh) (b := w.heap.size + 1 + 1) (by omega) 5 (.slice k2.a k2.len k2.cap)))
  have Gn : Hid (w.heap.size + 3 ≤ W2.heap.size) := hide (by rw [hW]; simp only [size_sc]; exact unhide Gh)
  replace K2 := hide (show SqA W2 (w.heap.size + 3) k2 e.t.items by rw [hW]; exact (unhide K2).fr ((Fr.below (Below.refl _ v2) _).sets (.slice k2.a k2.len k2.cap) (by omega)))
  have HW := hide hW.symm
  clear hW Oh Zh Ah Bh Gh
  have Oh := On
  clear On
  have Zh := Zn
  clear Zn
  have Ah := An
  clear An
  have Bh := Bn
  clear Bn
  have Gh := Gn
  clear Gn
  go_wp2_with fail
  rw [unhide HW]
  clear HW k_5 g_5 a_6
  refine (unhide q3 _ ((unhide M3).keep (unhide Bh))).mono ?_
  rintro r v3 ⟨⟨k3, rfl, hk3⟩, hb1⟩
  have K3 := hide (hk3.lo (unhide Gh))
  clear hk3
  have Gn : Hid (w.heap.size + 3 ≤ v3.heap.size) := hide (Nat.le_trans (unhide Gh) hb1.size)
  clear Gh
  have Gh := Gn
  clear Gn
  replace Oh := hide ((unhide Oh).keep hb1)
  replace Zh := hide ((unhide Zh).keep hb1)
  replace Ah := hide ((unhide Ah).keep hb1)
  replace Bh := hide (bTr (unhide Bh) hb1)
  replace K2 := hide ((unhide K2).keep hb1)
  clear hb1
  have k_6 := (unhide Oh).at (o := 6) (v := .slice none 0 0) rfl
  have g_6 := (unhide Oh).froz 6
  obtain ⟨W3, hW⟩ : ∃ W, W = (v3.setCell ⟨w.heap.size + 1 + 1, 6, none⟩ (.slice k3.a k3.len k3.cap)) := ⟨_, rfl⟩
  have On : Hid (RowIs W3 (w.heap.size + 1 + 1) #[.int .i64 e.t.k, .int .i64 e.t.a.x, .int .i64 e.t.a.n, .string e.t.a.t, .string e.t.a.y, .slice k2.a k2.len k2.cap, .slice k3.a k3.len k3.cap] 103) := hide (by have h := ((unhide Oh).set 6 (.slice k3.a k3.len k3.cap)); simp only [List.setIfInBounds_toArray, List.set_cons_zero, List.set_cons_succ] at h; rw [hW]; exact h)
  have Zn : Hid (RowIs W3 (w.heap.size + 1) #[.int .i64 0, .int .i64 0, .int .i64 0, .string ⟨#[]⟩, .string ⟨#[]⟩, .slice none 0 0, .slice none 0 0] 103) := hide (by rw [hW]; exact ((unhide Zh).setOther (o' := 6) (.slice k3.a k3.len k3.cap) hne2))
  have An : Hid (RowIs W3 w.heap.size #[.int .i64 e.t.k, .int .i64 e.t.a.x, .int .i64 e.t.a.n, .string e.t.a.t, .string e.t.a.y, .slice e.h2.a e.h2.len e.h2.cap, .slice e.h3.a e.h3.len e.h3.cap] 107) := hide (by rw [hW]; exact ((unhide Ah).setOther (o' := 6) (.slice k3.a k3.len k3.cap) hne1))
  have Bn : Hid (Below w.heap.size w W3) := hide (by rw [hW]; exact (bSt (unhide Bh) (b := w.heap.size + 1 + 1) (by omega) 6 (.slice k3.a k3.len k3.cap)))
  have Gn : Hid (w.heap.size + 3 ≤ W3.heap.size) := hide (by rw [hW]; simp only [size_sc]; exact unhide Gh)
  replace K2 := hide (show SqA W3 (w.heap.size + 3) k2 e.t.items by rw [hW]; exact (unhide K2).fr ((Fr.below (Below.refl _ v3) _).sets (.slice k3.a k3.len k3.cap) (by omega)))
  replace K3 := hide (show SqS W3 (w.heap.size + 3) k3 e.t.names by rw [hW]; exact (unhide K3).fr ((Fr.below (Below.refl _ v3) _).sets (.slice k3.a k3.len k3.cap) (by omega)))
  have HW := hide hW.symm
  clear hW Oh Zh Ah Bh Gh
  have Oh := On
  clear On
  have Zh := Zn
  clear Zn
  have Ah := An
  clear An
  have Bh := Bn
  clear Bn
  have Gh := Gn
  clear Gn
  go_upto_region 6 with fail
  rw [unhide HW]
  clear HW k_6 g_6
  go_step
  refine wpList_load_row rfl 103 _ rfl (w.heap.size + 1 + 1) rfl 103 _ (0, 0) _ (unhide Oh) Tryz.underlying103 rfl (by kernel_rfl) ?_
  refine wpList_store_row rfl 103 _ _ rfl (w.heap.size + 1) #[.int .i64 e.t.k, .int .i64 e.t.a.x, .int .i64 e.t.a.n, .string e.t.a.t, .string e.t.a.y, .slice k2.a k2.len k2.cap, .slice k3.a k3.len k3.cap] rfl rfl 103 _ (unhide Zh) (by kernel_rfl) rfl (by simp [Value.oneCell']) ?_
  have Z6 := hide (setRow_heap W3 (w.heap.size + 1) _ #[.int .i64 e.t.k, .int .i64 e.t.a.x, .int .i64 e.t.a.n, .string e.t.a.t, .string e.t.a.y, .slice k2.a k2.len k2.cap, .slice k3.a k3.len k3.cap] _ _ (unhide Zh))
  go_wp2_with fail
  refine bodyPost_ret (v := .agg #[.int .i64 e.t.k, .int .i64 e.t.a.x, .int .i64 e.t.a.n, .string e.t.a.t, .string e.t.a.y, .slice k2.a k2.len k2.cap, .slice k3.a k3.len k3.cap]) (results_cell_row rfl _ _ (w.heap.size + 1) 103 _ (0, 0) _ rfl (unhide Z6) Tryz.underlying103 rfl (by kernel_rfl)) rfl ⟨⟨⟨e.t, k2, k3⟩, rfl, rfl, ⟨((unhide K2).fr ((Fr.below (Below.refl _ _) _).row _ (by omega))).lo (by omega), ((unhide K3).fr ((Fr.below (Below.refl _ _) _).row _ (by omega))).lo (by omega), trivial⟩⟩, bRow (unhide Bh) (by omega) _⟩

set_option maxRecDepth 20000 in
set_option maxHeartbeats 2000000 in
theorem eqValue_n (e1 e2 : ValueE) (w : World) (ht : e2.t = e1.t) (hn : ValueN e1.t) (m1 : ValueM w 0 e1) (m2 : ValueM w 0 e2) :
    Calls Tryz.prog 91 #[.agg #[.int .i64 e1.t.k, .int .i64 e1.t.a.x, .int .i64 e1.t.a.n, .string e1.t.a.t, .string e1.t.a.y, .slice e1.h2.a e1.h2.len e1.h2.cap, .slice e1.h3.a e1.h3.len e1.h3.cap], .agg #[.int .i64 e2.t.k, .int .i64 e2.t.a.x, .int .i64 e2.t.a.n, .string e2.t.a.t, .string e2.t.a.y, .slice e2.h2.a e2.h2.len e2.h2.cap, .slice e2.h3.a e2.h3.len e2.h3.cap]] w fun r w' => r = .returned (.bool true) ∧ Below w.heap.size w w' := by
  obtain ⟨t, h2, h3⟩ := e1
  obtain ⟨t', g2, g3⟩ := e2
  simp only at ht
  subst ht
  have q2 := hide (fun w u1 u2 => eqAtomS_n h2 g2 t'.items w hn.l2 u1 u2)
  have M2 := hide m1.m2
  have P2 := hide m2.m2
  have q3 := hide (fun w u1 u2 => eqStringS_n h3 g3 t'.names w hn.l3 u1 u2)
  have M3 := hide m1.m3
  have P3 := hide m2.m3
  have X := hide ((RowIs.new w #[.int .i64 t'.k, .int .i64 t'.a.x, .int .i64 t'.a.n, .string t'.a.t, .string t'.a.y, .slice h2.a h2.len h2.cap, .slice h3.a h3.len h3.cap] 103).keep (bAl (Below.refl _ _) (.cells #[.int .i64 t'.k, .int .i64 t'.a.x, .int .i64 t'.a.n, .string t'.a.t, .string t'.a.y, .slice g2.a g2.len g2.cap, .slice g3.a g3.len g3.cap] 103)))
  have Y : Hid (RowIs ((w.alloc (.cells #[.int .i64 t'.k, .int .i64 t'.a.x, .int .i64 t'.a.n, .string t'.a.t, .string t'.a.y, .slice h2.a h2.len h2.cap, .slice h3.a h3.len h3.cap] 103)).alloc (.cells #[.int .i64 t'.k, .int .i64 t'.a.x, .int .i64 t'.a.n, .string t'.a.t, .string t'.a.y, .slice g2.a g2.len g2.cap, .slice g3.a g3.len g3.cap] 103)) (w.heap.size + 1) #[.int .i64 t'.k, .int .i64 t'.a.x, .int .i64 t'.a.n, .string t'.a.t, .string t'.a.y, .slice g2.a g2.len g2.cap, .slice g3.a g3.len g3.cap] 103) := hide (by have := RowIs.new (w.alloc (.cells #[.int .i64 t'.k, .int .i64 t'.a.x, .int .i64 t'.a.n, .string t'.a.t, .string t'.a.y, .slice h2.a h2.len h2.cap, .slice h3.a h3.len h3.cap] 103)) #[.int .i64 t'.k, .int .i64 t'.a.x, .int .i64 t'.a.n, .string t'.a.t, .string t'.a.y, .slice g2.a g2.len g2.cap, .slice g3.a g3.len g3.cap] 103; simpa using this)
  have B := hide (bAl (bAl (Below.refl w.heap.size w) (.cells #[.int .i64 t'.k, .int .i64 t'.a.x, .int .i64 t'.a.n, .string t'.a.t, .string t'.a.y, .slice h2.a h2.len h2.cap, .slice h3.a h3.len h3.cap] 103)) (.cells #[.int .i64 t'.k, .int .i64 t'.a.x, .int .i64 t'.a.n, .string t'.a.t, .string t'.a.y, .slice g2.a g2.len g2.cap, .slice g3.a g3.len g3.cap] 103))
  clear m1 m2 hn
  go_enter Tryz.func91, Tryz.ntmps91
  go_wp2_with fail
  refine (eqAtom_same _ _ _ _ _).mono ?_
  rintro r w1 ⟨rfl, hb1⟩
  replace X := hide ((unhide X).keep hb1)
  replace Y := hide ((unhide Y).keep hb1)
  replace B := hide (bTr (unhide B) hb1)
  clear hb1 
  have c5 := (unhide X).at (o := 5) (v := .slice h2.a h2.len h2.cap) rfl
  have d5 := (unhide Y).at (o := 5) (v := .slice g2.a g2.len g2.cap) rfl
  go_wp2_with fail
  refine (unhide q2 _ ((unhide M2).keep (unhide B)) ((unhide P2).keep (unhide B))).mono ?_
  rintro r w2 ⟨rfl, hb1⟩
  replace X := hide ((unhide X).keep hb1)
  replace Y := hide ((unhide Y).keep hb1)
  replace B := hide (bTr (unhide B) hb1)
  clear hb1 c5 d5
  have c6 := (unhide X).at (o := 6) (v := .slice h3.a h3.len h3.cap) rfl
  have d6 := (unhide Y).at (o := 6) (v := .slice g3.a g3.len g3.cap) rfl
  go_wp2_with fail
  refine (unhide q3 _ ((unhide M3).keep (unhide B)) ((unhide P3).keep (unhide B))).mono ?_
  rintro r w3 ⟨rfl, hb1⟩
  replace X := hide ((unhide X).keep hb1)
  replace Y := hide ((unhide Y).keep hb1)
  replace B := hide (bTr (unhide B) hb1)
  clear hb1 c6 d6
  go_wp2_with fail
  go_ret
  exact ⟨rfl, unhide B⟩

set_option maxRecDepth 20000 in
set_option maxHeartbeats 2000000 in
theorem szValueS_n (h : Hd) (xs : List ValT) (left : Int) (w : World) (h0 : 0 ≤ left) (h1 : left ≤ 1048576) (ho : ∀ q ∈ xs, ValueN q) (hl : xs.length ≤ maxLen) (hs : SqValue w 0 h xs) :
    Calls Tryz.prog 42 #[.slice h.a h.len h.cap, .int .i64 left] w fun e w' => (∃ m : Int, -1 ≤ m ∧ m ≤ left ∧ (0 ≤ m → xs.length ≤ 1048576 ∧ ∀ q ∈ xs, ValueSm q) ∧ e = .returned (.int .i64 m)) ∧ Below w.heap.size w w' := by
  obtain ⟨l, rfl, hs⟩ := hs
  have ho' : ∀ q ∈ l, ValueN q.t := fun q hq => ho _ (List.mem_map_of_mem hq)
  have HSM : Hid ((∀ i (h : i < l.length), ValueSm l[i].t) → ∀ q ∈ l.map (·.t), ValueSm q) := hide (fun g q hq => by
    obtain ⟨e, he, rfl⟩ := List.mem_map.1 hq
    obtain ⟨i, hi, rfl⟩ := List.getElem_of_mem he
    exact g i hi)
  have hll : (l.map (·.t)).length = l.length := by simp
  rw [hll] at hl ⊢
  clear ho hll
  unfold maxLen at hl
  have hle := hs.1
  obtain ⟨a, len, cap⟩ := h
  simp only at hle
  by_cases hlen : left < (len : Int)
  · clear hs ho' HSM
    go_enter Tryz.func42, Tryz.ntmps42
    go_wp2
    go_ret
    exact ⟨⟨-1, by omega, by omega, by omega, rfl⟩, Below.refl _ _⟩
  have d1 : decide (left - (len : Int) < 0) = false := by simp; omega
  have HS := hide hs
  have HO := hide ho'
  clear hs ho'
  go_enter Tryz.func42, Tryz.ntmps42
  go_wp2
  go_loopw [1, 5] (fun m i w' => ∃ (k : Nat) (q : Int), k ≤ len ∧ 0 ≤ q ∧ q ≤ left ∧ i = .int .i64 k ∧ m = .int .i64 q ∧ Hid (∀ i (h : i < l.length), i < k → ValueSm l[i].t) ∧ Below w.heap.size w w') (fun _ i _ => len - (Go.RowKit.intOf i).toNat)
  case atStart => exact ⟨0, _, Nat.zero_le _, by omega, by omega, rfl, rfl, hide (fun i _ h => absurd h (Nat.not_lt_zero _)), Below.refl _ _⟩
  case round =>
    obtain ⟨k, q, hk, hq1, hq2, rfl, rfl, hall, hbel⟩ := hrel
    by_cases hlt : k < len
    · obtain ⟨b, off, e0, hrow⟩ := ((unhide HS).keep hbel).at hlt
      simp only at e0
      subst e0
      have hk' : k < l.length := by omega
      have c0 := hrow.c0 k hk'
      have c1 := hrow.c1 k hk'
      have c2 := hrow.c2 k hk'
      have c3 := hrow.c3 k hk'
      have c4 := hrow.c4 k hk'
      have c5 := hrow.c5 k hk'
      have c6 := hrow.c6 k hk'
      have hz := hide (fun q (w : World) h0 h1 hb => szValue_n l[k] q w h0 h1 (unhide HO _ (List.getElem_mem hk')) (((unhide HS).2.2 _ (List.getElem_mem hk')).keep hb))
      have hst := hide (show ValueSm l[k].t → ∀ i (h : i < l.length), i < k + 1 → ValueSm l[i].t from fun hle i hi hik => by
        rcases Nat.lt_or_ge i k with h | h
        · exact unhide hall i hi h
        · obtain rfl : i = k := by omega
          exact hle)
      clear hrow
      generalize l[k] = A at hz hst c0 c1 c2 c3 c4 c5 c6
      go_wp2_with fail
      refine (unhide hz _ _ (by omega) (by omega) hbel).mono ?_
      rintro e w1 ⟨⟨m, hm1, hm2, hm3, rfl⟩, hb1⟩
      by_cases hm : m < 0
      · go_wp2_with fail
        go_ret
        exact ⟨⟨-1, by omega, by omega, by omega, rfl⟩, bTr hbel hb1⟩
      · have hst2 := hide (unhide hst (hm3 (by omega)))
        go_wp2_with fail
        exact ⟨⟨k + 1, m, by omega, by omega, by omega, by go_num, rfl, hst2, bTr hbel hb1⟩, by simp [Go.RowKit.intOf]; omega⟩
    · go_wp2_with fail
      go_ret
      exact ⟨⟨q, by omega, by omega, fun _ => ⟨by omega, unhide HSM fun i hi => unhide hall i hi (by omega)⟩, rfl⟩, hbel⟩

theorem info_Value : (Tryz.prog.info? 103).map (fun i => (i.zero, i.size, i.bytes)) = some (some (.agg #[.int .i64 0, .int .i64 0, .int .i64 0, .string ByteArray.empty, .string ByteArray.empty, .slice none 0 0, .slice none 0 0]), 7, 104) := by kernel_rfl
theorem make_Value (len : Nat) (w : World) (h : len ≤ 1048576) : ∃ w1 C, (Instr.makeSlice 54 (.int .i64 (len : Int)) (.int .i64 (len : Int))).run Tryz.prog w = .ok (.slice (some ⟨w.heap.size, 0, none⟩) len len) w1 ∧
    Below w.heap.size w w1 ∧ RowIs w1 w.heap.size C 103 ∧ C.size = len * 7 := by
  obtain ⟨i, h1, h2⟩ := Option.map_eq_some_iff.1 info_Value
  simp only [Prod.mk.injEq] at h2
  obtain ⟨hz, hsz, hby⟩ := h2
  have hr := run_make (P := Tryz.prog) w 54 103 i _ Tryz.underlying54 h1 hz .i64 .i64 (len : Int) (len : Int) (by omega) (by omega) (by rw [hby]; omega) (by omega)
  rw [Int.toNat_natCast, hsz] at hr
  exact ⟨_, _, hr, bAl (Below.refl _ _) _, RowIs.new _ _ _, size_madeCells _ _⟩
def FilledValue (C : Array Value) (l : List ValueE) : Prop := ∀ i (h : i < l.length), C[i * 7]? = some (.int .i64 l[i].t.k) ∧ C[i * 7 + 1]? = some (.int .i64 l[i].t.a.x) ∧ C[i * 7 + 2]? = some (.int .i64 l[i].t.a.n) ∧ C[i * 7 + 3]? = some (.string l[i].t.a.t) ∧ C[i * 7 + 4]? = some (.string l[i].t.a.y) ∧ C[i * 7 + 5]? = some (.slice l[i].h2.a l[i].h2.len l[i].h2.cap) ∧ C[i * 7 + 6]? = some (.slice l[i].h3.a l[i].h3.len l[i].h3.cap)
def setValue (C : Array Value) (k : Nat) (x : ValueE) : Array Value := (((((((C.setIfInBounds (k * 7) (.int .i64 x.t.k)).setIfInBounds (k * 7 + 1) (.int .i64 x.t.a.x)).setIfInBounds (k * 7 + 2) (.int .i64 x.t.a.n)).setIfInBounds (k * 7 + 3) (.string x.t.a.t)).setIfInBounds (k * 7 + 4) (.string x.t.a.y)).setIfInBounds (k * 7 + 5) (.slice x.h2.a x.h2.len x.h2.cap)).setIfInBounds (k * 7 + 6) (.slice x.h3.a x.h3.len x.h3.cap))
theorem size_setValue (C : Array Value) (k : Nat) (x : ValueE) : (setValue C k x).size = C.size := by simp [setValue]
theorem FilledValue.snoc {C : Array Value} {l : List ValueE} (h : FilledValue C l) (x : ValueE) (hC : l.length * 7 + 7 ≤ C.size) : FilledValue (setValue C l.length x) (l ++ [x]) := by
  intro i hi
  unfold setValue
  by_cases e : i = l.length
  · subst e
    have s0 : l.length * 7 < C.size := by omega
    have s1 : l.length * 7 + 1 < C.size := by omega
    have s2 : l.length * 7 + 2 < C.size := by omega
    have s3 : l.length * 7 + 3 < C.size := by omega
    have s4 : l.length * 7 + 4 < C.size := by omega
    have s5 : l.length * 7 + 5 < C.size := by omega
    have s6 : l.length * 7 + 6 < C.size := by omega
    simp [s0, s1, s2, s3, s4, s5, s6]
  · have hi' : i < l.length := by simp at hi; omega
    have := h i hi'
    rw [List.getElem_append_left hi']
    simp only [Array.getElem?_setIfInBounds]
    repeat rw [if_neg (by omega)]
    exact this
theorem FilledValue.row {w : World} {b : Nat} {C : Array Value} {T : TypeId} {l : List ValueE} (h : FilledValue C l) (hr : RowIs w b C T) : ValueRow w b 0 l :=
  ⟨hr.lt, fun i hi => by rw [Nat.zero_add, hr.cell]; exact (h i hi).1, fun i hi => by rw [Nat.zero_add, hr.cell]; exact (h i hi).2.1, fun i hi => by rw [Nat.zero_add, hr.cell]; exact (h i hi).2.2.1, fun i hi => by rw [Nat.zero_add, hr.cell]; exact (h i hi).2.2.2.1, fun i hi => by rw [Nat.zero_add, hr.cell]; exact (h i hi).2.2.2.2.1, fun i hi => by rw [Nat.zero_add, hr.cell]; exact (h i hi).2.2.2.2.2.1, fun i hi => by rw [Nat.zero_add, hr.cell]; exact (h i hi).2.2.2.2.2.2⟩
set_option maxRecDepth 100000 in
set_option maxHeartbeats 4000000 in
theorem toValueS_n (h : Hd) (xs : List ValT) (w : World) (hl : xs.length ≤ 1048576 ∧ ∀ q ∈ xs, ValueSm q) (hs : SqValue w 0 h xs) :
    Calls Tryz.prog 51 #[.slice h.a h.len h.cap] w fun e w' => (∃ h' : Hd, e = .returned (.slice h'.a h'.len h'.cap) ∧ SqValue w' w.heap.size h' xs) ∧ Below w.heap.size w w' := by
  obtain ⟨l, rfl, hs⟩ := hs
  have hsm : ∀ q ∈ l, ValueSm q.t := fun q hq => hl.2 _ (List.mem_map_of_mem hq)
  have hll : l.length ≤ 1048576 := by have := hl.1; simpa using this
  clear hl
  have hle := hs.1
  obtain ⟨a, len, cap⟩ := h
  simp only at hle
  obtain ⟨w1, C1, hrun, hb1, hr1, hC1⟩ := make_Value len w (by omega)
  have HS := hide hs
  have HM := hide hsm
  have HB1 := hide hb1
  have HR1 := hide hr1
  have HL := hide hle
  clear hs hb1 hr1 hsm hle
  go_enter Tryz.func51, Tryz.ntmps51
  go_wp2
  clear hrun
  go_loopw [4] (fun i w' => ∃ (k : Nat) (C : Array Value) (l' : List ValueE), k ≤ len ∧ i = .int .i64 k ∧ Hid (l'.length = k ∧ l'.map (·.t) = (l.map (·.t)).take k) ∧ Hid (Below w.heap.size w w') ∧ Hid (RowIs w' w.heap.size C 103) ∧ Hid (C.size = len * 7) ∧ Hid (FilledValue C l') ∧ Hid (∀ e ∈ l', ValueM w' (w.heap.size + 1) e)) (fun i _ => len - (Go.RowKit.intOf i).toNat)
  case atStart => exact ⟨0, C1, [], Nat.zero_le _, rfl, hide ⟨rfl, by simp⟩, HB1, HR1, hide hC1, hide (fun i h => absurd h (Nat.not_lt_zero _)), hide (fun e he => by cases he)⟩
  case round =>
    obtain ⟨k, C, l', hk, rfl, hl', hb, hr, hC, hF, hMs⟩ := hrel
    by_cases hlt : k < len
    · obtain ⟨b, off, e0, hrow⟩ := ((unhide HS).keep (unhide hb)).at hlt
      simp only at e0
      subst e0
      have hk' : k < l.length := by have := unhide HL; omega
      have c0 := hrow.c0 k hk'
      have c1 := hrow.c1 k hk'
      have c2 := hrow.c2 k hk'
      have c3 := hrow.c3 k hk'
      have c4 := hrow.c4 k hk'
      have c5 := hrow.c5 k hk'
      have c6 := hrow.c6 k hk'
      have ht := hide (fun (w : World) hb => toValue_n l[k] w (unhide HM _ (List.getElem_mem hk')) (((unhide HS).2.2 _ (List.getElem_mem hk')).keep hb))
      have htk : Hid (∀ A' : ValueE, A'.t = l[k].t → (l' ++ [A']).length = k + 1 ∧ (l' ++ [A']).map (·.t) = (l.map (·.t)).take (k + 1)) := hide (fun A' e => by
        refine ⟨by simp [(unhide hl').1], ?_⟩
        rw [List.map_append, (unhide hl').2, List.take_add_one]
        simp [hk', e])
      clear hrow hC1
      generalize l[k] = A at ht htk c0 c1 c2 c3 c4 c5 c6
      go_wp2_with fail
      refine (unhide ht _ (unhide hb)).mono ?_
      rintro e w2 ⟨⟨A', eA, rfl, hMA⟩, hb2⟩
      have zb : w.heap.size < wr.heap.size := (unhide hr).lt
      have hMA' := hide (hMA.lo (lo' := w.heap.size + 1) zb)
      replace hr := hide ((unhide hr).keep hb2)
      replace hb := hide (bTr (unhide hb) hb2)
      replace hMs := hide (fun e he => (unhide hMs e he).keep hb2)
      have hF' := hide ((unhide hF).snoc A' (by rw [unhide hC, (unhide hl').1]; omega))
      have hl2 := hide (unhide htk A' eA)
      have el : l'.length = k := (unhide hl').1
      rw [el] at hF'
      have s9 : k * 7 + 6 < C.size := by rw [unhide hC]; omega
      obtain ⟨D0, d0⟩ : ∃ D, C[k * 7]? = some D := ⟨_, Array.getElem?_eq_getElem (by omega)⟩
      have g0 := (unhide hr).at d0
      have y0 := (unhide hr).froz (k * 7)
      clear d0
      obtain ⟨D1, d1⟩ : ∃ D, C[k * 7 + 1]? = some D := ⟨_, Array.getElem?_eq_getElem (by omega)⟩
      have g1 := (unhide hr).at d1
      have y1 := (unhide hr).froz (k * 7 + 1)
      clear d1
      obtain ⟨D2, d2⟩ : ∃ D, C[k * 7 + 2]? = some D := ⟨_, Array.getElem?_eq_getElem (by omega)⟩
      have g2 := (unhide hr).at d2
      have y2 := (unhide hr).froz (k * 7 + 2)
      clear d2
      obtain ⟨D3, d3⟩ : ∃ D, C[k * 7 + 3]? = some D := ⟨_, Array.getElem?_eq_getElem (by omega)⟩
      have g3 := (unhide hr).at d3
      have y3 := (unhide hr).froz (k * 7 + 3)
      clear d3
      obtain ⟨D4, d4⟩ : ∃ D, C[k * 7 + 4]? = some D := ⟨_, Array.getElem?_eq_getElem (by omega)⟩
      have g4 := (unhide hr).at d4
      have y4 := (unhide hr).froz (k * 7 + 4)
      clear d4
      obtain ⟨D5, d5⟩ : ∃ D, C[k * 7 + 5]? = some D := ⟨_, Array.getElem?_eq_getElem (by omega)⟩
      have g5 := (unhide hr).at d5
      have y5 := (unhide hr).froz (k * 7 + 5)
      clear d5
      obtain ⟨D6, d6⟩ : ∃ D, C[k * 7 + 6]? = some D := ⟨_, Array.getElem?_eq_getElem (by omega)⟩
      have g6 := (unhide hr).at d6
      have y6 := (unhide hr).froz (k * 7 + 6)
      clear d6
      clear c0 c1 c2 c3 c4 c5 c6 hb2 hMA eA htk hF hl' ht
      go_wp2_with fail
      refine ⟨⟨k + 1, setValue C k A', l' ++ [A'], by omega, by go_num, hl2, hide ?_, hide ?_, hide (by rw [size_setValue]; exact unhide hC), hF', hide ?_⟩, by simp [Go.RowKit.intOf]; omega⟩
      · repeat refine bSt ?_ (Nat.le_refl _) _ _
        exact unhide hb
      · exact (((((((unhide hr).set _ _).set _ _).set _ _).set _ _).set _ _).set _ _).set _ _
      · have fr : Fr (w.heap.size + 1) w2 _ := ((((((((Fr.below (Below.refl _ w2) _).sets (o' := k * 7) (.int .i64 A'.t.k) (Nat.lt_succ_self _)).sets (o' := k * 7 + 1) (.int .i64 A'.t.a.x) (Nat.lt_succ_self _)).sets (o' := k * 7 + 2) (.int .i64 A'.t.a.n) (Nat.lt_succ_self _)).sets (o' := k * 7 + 3) (.string A'.t.a.t) (Nat.lt_succ_self _)).sets (o' := k * 7 + 4) (.string A'.t.a.y) (Nat.lt_succ_self _)).sets (o' := k * 7 + 5) (.slice A'.h2.a A'.h2.len A'.h2.cap) (Nat.lt_succ_self _)).sets (o' := k * 7 + 6) (.slice A'.h3.a A'.h3.len A'.h3.cap) (Nat.lt_succ_self _))
        intro e he
        rcases List.mem_append.1 he with h | h
        · exact (unhide hMs e h).fr fr
        · obtain rfl : e = A' := by simpa using h
          exact (unhide hMA').fr fr
    · go_wp2_with fail
      go_ret
      have hle := unhide HL
      have e : k = l.length := by omega
      have el : l'.length = k := (unhide hl').1
      exact ⟨⟨⟨some ⟨w.heap.size, 0, none⟩, len, len⟩, rfl, l', by rw [(unhide hl').2, e, List.take_of_length_le (by simp)], by simp only; omega, .inr ⟨_, _, rfl, Lo.own (fun o => (unhide hr).froz o), (unhide hF).row (unhide hr)⟩, fun e he => (unhide hMs e he).lo (Nat.le_succ _)⟩, unhide hb⟩

set_option maxRecDepth 20000 in
set_option maxHeartbeats 4000000 in
theorem eqValueS_n (h g : Hd) (xs : List ValT) (w : World) (hl : xs.length ≤ maxLen) (hn : ∀ q ∈ xs, ValueN q) (h1 : SqValue w 0 h xs) (h2 : SqValue w 0 g xs) :
    Calls Tryz.prog 62 #[.slice h.a h.len h.cap, .slice g.a g.len g.cap] w fun e w' => e = .returned (.bool true) ∧ Below w.heap.size w w' := by
  obtain ⟨l, rfl, h1⟩ := h1
  obtain ⟨m, em, h2⟩ := h2
  have hn' : ∀ q ∈ l, ValueN q.t := fun q hq => hn _ (List.mem_map_of_mem hq)
  have elm : m.length = l.length := by have := congrArg List.length em; simpa using this
  have het : ∀ i (hi : i < l.length), (m[i]'(by omega)).t = l[i].t := fun i hi => by
    have := List.getElem_of_eq em (i := i) (by simp; omega)
    simpa using this
  have hle := h1.1
  have hge := h2.1
  have hlm : l.length ≤ maxLen := by simpa using hl
  unfold maxLen at hlm
  obtain ⟨a1, len1, c1⟩ := h
  obtain ⟨a2, len2, c2⟩ := g
  simp only at hle hge
  obtain rfl : len1 = len2 := by omega
  have H1 := hide h1
  have H2 := hide h2
  have HN := hide hn'
  have HT := hide het
  clear h1 h2 hn hn' het em hl
  go_enter Tryz.func62, Tryz.ntmps62
  go_wp2
  go_loopw [5] (fun i w' => ∃ k : Nat, k ≤ len1 ∧ i = .int .i64 k ∧ Hid (Below w.heap.size w w')) (fun i _ => len1 - (Go.RowKit.intOf i).toNat)
  case atStart => exact ⟨0, Nat.zero_le _, rfl, hide (Below.refl _ _)⟩
  case round =>
    obtain ⟨k, hk, rfl, hbel⟩ := hrel
    by_cases hlt : k < len1
    · have hk' : k < l.length := by omega
      have hk2 : k < m.length := by omega
      obtain ⟨b, off, e0, r1⟩ := ((unhide H1).keep (unhide hbel)).at hlt
      obtain ⟨b', off', e1, r2⟩ := ((unhide H2).keep (unhide hbel)).at hlt
      simp only at e0 e1
      subst e0 e1
      have p0 := r1.c0 k hk'
      have p1 := r1.c1 k hk'
      have p2 := r1.c2 k hk'
      have p3 := r1.c3 k hk'
      have p4 := r1.c4 k hk'
      have p5 := r1.c5 k hk'
      have p6 := r1.c6 k hk'
      have q0 := r2.c0 k hk2
      have q1 := r2.c1 k hk2
      have q2 := r2.c2 k hk2
      have q3 := r2.c3 k hk2
      have q4 := r2.c4 k hk2
      have q5 := r2.c5 k hk2
      have q6 := r2.c6 k hk2
      have z1 := r1.z
      have z2 := r2.z
      have Q := hide (fun (q : Kept wr) => eqValue_n l[k] m[k] q.w (unhide HT k hk') (unhide HN _ (List.getElem_mem hk')) (((unhide H1).2.2 _ (List.getElem_mem hk')).keep (bTr (unhide hbel) q.h)) (((unhide H2).2.2 _ (List.getElem_mem hk2)).keep (bTr (unhide hbel) q.h)))
      clear r1 r2
      generalize l[k] = A at Q p0 p1 p2 p3 p4 p5 p6
      generalize m[k] = A' at Q q0 q1 q2 q3 q4 q5 q6
      have ne : Nonempty (Kept wr) := ⟨⟨wr, Below.refl _ _⟩⟩
      have x0 := kept_cell z1 p0
      have x1 := kept_cell z1 p1
      have x2 := kept_cell z1 p2
      have x3 := kept_cell z1 p3
      have x4 := kept_cell z1 p4
      have x5 := kept_cell z1 p5
      have x6 := kept_cell z1 p6
      have y0 := kept_cell z2 q0
      have y1 := kept_cell z2 q1
      have y2 := kept_cell z2 q2
      have y3 := kept_cell z2 q3
      have y4 := kept_cell z2 q4
      have y5 := kept_cell z2 q5
      have y6 := kept_cell z2 q6
      have i0 : (0 : Int) ≤ (k : Int) := by omega
      have i1 : (k : Int) < (len1 : Int) := by omega
      go_wp2_with fail
      refine wp_region_kept (by kernel_rfl) (by kernel_rfl) ?_
      repeat (first
        | go_big_quiet_step ((go_at_call 91; exact kept_call (unhide Q _)))
        | quiet_step ((go_at_call 91; exact kept_call (unhide Q _))))
      refine wpQuiet_nil ?_
      rintro _ ⟨q, rfl⟩
      clear ne x0 x1 x2 x3 x4 x5 x6 y0 y1 y2 y3 y4 y5 y6
      obtain ⟨w3, hb3⟩ := q
      have HB3 := hide (bTr (unhide hbel) hb3)
      go_wp2_with fail
      exact ⟨⟨k + 1, by omega, by go_num, HB3⟩, by simp [Go.RowKit.intOf]; omega⟩
    · go_wp2_with fail
      go_ret
      exact ⟨rfl, unhide hbel⟩

theorem listcValue {α : Type} {l : List α} (h : l.length = 7) : ∃ a0 a1 a2 a3 a4 a5 a6, l = [a0, a1, a2, a3, a4, a5, a6] := by
  match l, h with
  | [a0, a1, a2, a3, a4, a5, a6], _ => exact ⟨a0, a1, a2, a3, a4, a5, a6, rfl⟩
theorem listfValue {α : Type} {l : List α} (h : l.length = 4) : ∃ a0 a1 a2 a3, l = [a0, a1, a2, a3] := by
  match l, h with
  | [a0, a1, a2, a3], _ => exact ⟨a0, a1, a2, a3, rfl⟩
section
variable {H : Type} {enc : TypeId × Value → H} {w : World} {base : Nat} {sp : Nat → Bool} {held : Bool}
set_option maxRecDepth 100000 in
theorem read_Value {n : Nat} {cs : List Value} {x : DataW H × List MemPlace} (h : DataW.trod enc Tryz.prog w base sp held n 107 cs = some x) : ∃ e : ValueE, cs = [.int .i64 e.t.k, .int .i64 e.t.a.x, .int .i64 e.t.a.n, .string e.t.a.t, .string e.t.a.y, .slice e.h2.a e.h2.len e.h2.cap, .slice e.h3.a e.h3.len e.h3.cap] ∧ ValueN e.t ∧ ValueM w 0 e := by
  obtain ⟨xs, m, rfl, _, hlen, hx, hf⟩ := DataW.trod_struct Tryz.underlying107 h
  have hc : Tryz.prog.cellsOf 107 = 7 := by kernel_rfl
  have ky0 : Tryz.prog.cellsOf 24 = 4 := by kernel_rfl
  have ky1 : Tryz.prog.cellsOf 47 = 1 := by kernel_rfl
  have ky2 : Tryz.prog.cellsOf 48 = 1 := by kernel_rfl
  have ky3 : Tryz.prog.cellsOf 3 = 1 := by kernel_rfl
  obtain ⟨c0, c1, c2, c3, c4, c5, c6, rfl⟩ := listcValue (hlen.trans hc)
  obtain ⟨x0, x1, x2, x3, rfl⟩ := listfValue hx
  have h0 : DataW.trod enc Tryz.prog w base sp held m 3 [c0] = some x0 := by have := hf 0 _ rfl; simpa [ky0, ky1, ky2, ky3] using this
  obtain ⟨y0, e0, _, _⟩ := DataW.trod_int Tryz.underlying3 h0
  simp at e0
  subst e0
  have h1 : DataW.trod enc Tryz.prog w base sp held m 24 [c1, c2, c3, c4] = some x1 := by have := hf 1 _ rfl; simpa [ky0, ky1, ky2, ky3] using this
  obtain ⟨y1, e1, ok1⟩ := read_atom h1
  simp at e1
  obtain ⟨rfl, rfl, rfl, rfl⟩ := e1
  have h2 : DataW.trod enc Tryz.prog w base sp held m 47 [c5] = some x2 := by have := hf 2 _ rfl; simpa [ky0, ky1, ky2, ky3] using this
  have g2 : ∃ a l c, c5 = .slice a l c := by
    rcases Go.Deep.open_slice Tryz.underlying47 h2 with ⟨hcs, _⟩ | ⟨a', len', cap', _, _, _, _, hcs, _⟩
    · simp at hcs; exact ⟨_, _, _, hcs⟩
    · simp at hcs; exact ⟨_, _, _, hcs⟩
  obtain ⟨a2, b2, d2, rfl⟩ := g2
  obtain ⟨y2, s2, ok2, ml2⟩ := readsA h2
  have h3 : DataW.trod enc Tryz.prog w base sp held m 48 [c6] = some x3 := by have := hf 3 _ rfl; simpa [ky0, ky1, ky2, ky3] using this
  have g3 : ∃ a l c, c6 = .slice a l c := by
    rcases Go.Deep.open_slice Tryz.underlying48 h3 with ⟨hcs, _⟩ | ⟨a', len', cap', _, _, _, _, hcs, _⟩
    · simp at hcs; exact ⟨_, _, _, hcs⟩
    · simp at hcs; exact ⟨_, _, _, hcs⟩
  obtain ⟨a3, b3, d3, rfl⟩ := g3
  obtain ⟨y3, s3, ok3, ml3⟩ := readsS h3
  exact ⟨⟨⟨y0, y1, y2, y3⟩, ⟨a2, b2, d2⟩, ⟨a3, b3, d3⟩⟩, rfl, ⟨ok1, ok2, ml2, ok3, ml3, trivial⟩, ⟨s2, s3, trivial⟩⟩
set_option maxRecDepth 100000 in
theorem came_Value {r : Reach} {b0 : Nat} {v0 : Value} {d : DataW H} {q : List MemPlace} (hv : Value.okWide Tryz.prog w r b0 107 v0) (h : DataW.Trod enc Tryz.prog w base sp held 107 v0 d q) : ∃ e : ValueE, v0 = .agg #[.int .i64 e.t.k, .int .i64 e.t.a.x, .int .i64 e.t.a.n, .string e.t.a.t, .string e.t.a.y, .slice e.h2.a e.h2.len e.h2.cap, .slice e.h3.a e.h3.len e.h3.cap] ∧ ValueN e.t ∧ ValueM w 0 e := by
  obtain ⟨cs, rfl, _⟩ := okWide_struct Tryz.underlying107 hv
  obtain ⟨fuel, hf0⟩ := h
  obtain ⟨e, h1, h2, h3⟩ := read_Value hf0
  refine ⟨e, ?_, h2, h3⟩
  obtain ⟨l⟩ := cs
  simp only [Value.cells] at h1
  rw [h1]
set_option maxRecDepth 100000 in
theorem readsValue {n len cap : Nat} {a : Option Addr} {x : DataW H × List MemPlace} (h : DataW.trod enc Tryz.prog w base sp held n 49 [.slice a len cap] = some x) :
    ∃ l : List ValT, SqValue w 0 ⟨a, len, cap⟩ l ∧ (∀ q ∈ l, ValueN q) ∧ l.length ≤ maxLen := by
  have hc : Tryz.prog.cellsOf 107 = 7 := by kernel_rfl
  rcases Go.Deep.open_slice Tryz.underlying49 h with ⟨hcs, _⟩ | ⟨a', len', cap', m, n', D, Pl, hcs, _, hl, hm, hmm, _, hel⟩
  · simp at hcs
    obtain ⟨rfl, rfl, rfl⟩ := hcs
    exact ⟨[], ⟨[], rfl, rfl, .inl rfl, by simp⟩, by simp, Nat.zero_le _⟩
  · simp at hcs
    obtain ⟨rfl, rfl, rfl⟩ := hcs
    have hlm : len ≤ m := by rw [hmm]; split <;> omega
    by_cases h0 : len = 0
    · subst h0; exact ⟨[], ⟨[], rfl, rfl, .inl rfl, by simp⟩, by simp, Nat.zero_le _⟩
    have hspot : a'.spot = none := by
      obtain ⟨cs', h1, h2⟩ := hel 0 (by omega)
      rw [hc] at h1
      obtain ⟨A, rfl, _⟩ := read_Value h2
      have e0 := (World.cells?_some h1).2.2 0 (by omega)
      simp [Addr.add] at e0
      exact World.cell?_spot e0
    obtain ⟨b, off, spot⟩ := a'
    simp only at hspot
    subst hspot
    have hA : ∀ i, i < len → ∃ A : ValueE, ValueN A.t ∧ ValueM w 0 A ∧ (w.cell? ⟨b, off + i * 7, none⟩ = some (.int .i64 A.t.k) ∧ w.cell? ⟨b, off + i * 7 + 1, none⟩ = some (.int .i64 A.t.a.x) ∧ w.cell? ⟨b, off + i * 7 + 2, none⟩ = some (.int .i64 A.t.a.n) ∧ w.cell? ⟨b, off + i * 7 + 3, none⟩ = some (.string A.t.a.t) ∧ w.cell? ⟨b, off + i * 7 + 4, none⟩ = some (.string A.t.a.y) ∧ w.cell? ⟨b, off + i * 7 + 5, none⟩ = some (.slice A.h2.a A.h2.len A.h2.cap) ∧ w.cell? ⟨b, off + i * 7 + 6, none⟩ = some (.slice A.h3.a A.h3.len A.h3.cap)) ∧ b < w.heap.size := by
      intro i hi
      obtain ⟨cs', h1, h2⟩ := hel i (by omega)
      rw [hc, addr_add] at h1
      obtain ⟨A, rfl, hok, hM⟩ := read_Value h2
      have h3 := (World.cells?_some h1).2.2
      have e0 := h3 0 (by omega)
      have e1 := h3 1 (by omega)
      have e2 := h3 2 (by omega)
      have e3 := h3 3 (by omega)
      have e4 := h3 4 (by omega)
      have e5 := h3 5 (by omega)
      have e6 := h3 6 (by omega)
      rw [addr_add] at e0 e1 e2 e3 e4 e5 e6
      exact ⟨A, hok, hM, ⟨e0, e1, e2, e3, e4, e5, e6⟩, World.block_lt_of_cell? w ⟨b, off + i * 7 + 0, none⟩ e0⟩
    obtain ⟨f, hf⟩ := @Go.Deep.choose_lt ValueE ⟨⟨⟨0, ⟨0, 0, ⟨#[]⟩, ⟨#[]⟩⟩, [], []⟩, ⟨none, 0, 0⟩, ⟨none, 0, 0⟩⟩⟩ len (fun i A => ValueN A.t ∧ ValueM w 0 A ∧ (w.cell? ⟨b, off + i * 7, none⟩ = some (.int .i64 A.t.k) ∧ w.cell? ⟨b, off + i * 7 + 1, none⟩ = some (.int .i64 A.t.a.x) ∧ w.cell? ⟨b, off + i * 7 + 2, none⟩ = some (.int .i64 A.t.a.n) ∧ w.cell? ⟨b, off + i * 7 + 3, none⟩ = some (.string A.t.a.t) ∧ w.cell? ⟨b, off + i * 7 + 4, none⟩ = some (.string A.t.a.y) ∧ w.cell? ⟨b, off + i * 7 + 5, none⟩ = some (.slice A.h2.a A.h2.len A.h2.cap) ∧ w.cell? ⟨b, off + i * 7 + 6, none⟩ = some (.slice A.h3.a A.h3.len A.h3.cap)) ∧ b < w.heap.size) hA
    refine ⟨((List.range len).map f).map (·.t), ⟨(List.range len).map f, rfl, by simp, .inr ⟨b, off, rfl, Lo.zero _ _, (hf 0 (by omega)).2.2.2, fun i hi => ?_, fun i hi => ?_, fun i hi => ?_, fun i hi => ?_, fun i hi => ?_, fun i hi => ?_, fun i hi => ?_⟩, ?_⟩, ?_, by simp; omega⟩
    · simp at hi
      have := (hf i hi).2.2.1.1
      simpa using this
    · simp at hi
      have := (hf i hi).2.2.1.2.1
      simpa using this
    · simp at hi
      have := (hf i hi).2.2.1.2.2.1
      simpa using this
    · simp at hi
      have := (hf i hi).2.2.1.2.2.2.1
      simpa using this
    · simp at hi
      have := (hf i hi).2.2.1.2.2.2.2.1
      simpa using this
    · simp at hi
      have := (hf i hi).2.2.1.2.2.2.2.2.1
      simpa using this
    · simp at hi
      have := (hf i hi).2.2.1.2.2.2.2.2.2
      simpa using this
    · intro q hq
      simp at hq
      obtain ⟨i, hi, rfl⟩ := hq
      exact (hf i hi).2.1
    · intro q hq
      simp at hq
      obtain ⟨i, hi, rfl⟩ := hq
      exact (hf i hi).1
set_option maxRecDepth 100000 in
/-- A slice that came in. -/
theorem cames_Value {r : Reach} {b0 : Nat} {v0 : Value} {d : DataW H} {q : List MemPlace} (hv : Value.okWide Tryz.prog w r b0 49 v0) (h : DataW.Trod enc Tryz.prog w base sp held 49 v0 d q) :
    ∃ (h : Hd) (xs : List ValT), v0 = .slice h.a h.len h.cap ∧ SqValue w 0 h xs ∧ (∀ q ∈ xs, ValueN q) ∧ xs.length ≤ maxLen := by
  obtain ⟨a, len, cap, rfl⟩ := okWide_slice Tryz.underlying49 hv
  obtain ⟨fuel, hf0⟩ := h
  obtain ⟨l, h1, h2, h3⟩ := readsValue hf0
  exact ⟨⟨a, len, cap⟩, l, rfl, h1, h2, h3⟩
end
end Go.Proofs.YtpfekkhnjaopdaaGreat.V
/- impl.Thing in memory, by what it holds: sized, copied, held against itself, read. -/
namespace Go.Proofs.YtpfekkhnjaopdaaGreat.V
set_option linter.unusedSimpArgs false
open Go.ChangeShapes Go.WideShapes Go.RowKit

structure ThingT where
  f0 : AtomT
  f1 : List AtomT
  f2 : List ByteArray
  f3 : List ValT
structure ThingE where
  t : ThingT
  h1 : Hd
  h2 : Hd
  h3 : Hd
structure ThingN (x : ThingT) : Prop where
  o0 : x.f0.Ok
  o1 : ∀ q ∈ x.f1, AtomT.Ok q
  l1 : x.f1.length ≤ maxLen
  o2 : ∀ q ∈ x.f2, ByteArray.size q ≤ maxLen
  l2 : x.f2.length ≤ maxLen
  o3 : ∀ q ∈ x.f3, ValueN q
  l3 : x.f3.length ≤ maxLen
  tt : True
structure ThingSm (x : ThingT) : Prop where
  l1 : x.f1.length ≤ 1048576
  l2 : x.f2.length ≤ 1048576
  l3 : x.f3.length ≤ 1048576
  o3 : ∀ q ∈ x.f3, ValueSm q
  tt : True
structure ThingM (w : World) (lo : Nat) (e : ThingE) : Prop where
  m1 : SqA w lo e.h1 e.t.f1
  m2 : SqS w lo e.h2 e.t.f2
  m3 : SqValue w lo e.h3 e.t.f3
  tt : True
theorem ThingM.fr {w w1 : World} {lo : Nat} {e : ThingE} (h : ThingM w lo e) (hf : Fr lo w w1) : ThingM w1 lo e := ⟨h.m1.fr hf, h.m2.fr hf, h.m3.fr hf, h.tt⟩
theorem ThingM.lo {w : World} {lo lo' : Nat} {e : ThingE} (h : ThingM w lo e) (hl : lo' ≤ lo) : ThingM w lo' e := ⟨h.m1.lo hl, h.m2.lo hl, h.m3.lo hl, h.tt⟩
theorem ThingM.keep {w w1 : World} {lo : Nat} {e : ThingE} (h : ThingM w lo e) (hb : Below w.heap.size w w1) : ThingM w1 lo e := h.fr (Fr.below hb lo)
structure ThingRow (w : World) (b off : Nat) (l : List ThingE) : Prop where
  z : b < w.heap.size
  c0 : ∀ i (h : i < l.length), w.cell? ⟨b, off + i * 7, none⟩ = some (.int .i64 l[i].t.f0.x)
  c1 : ∀ i (h : i < l.length), w.cell? ⟨b, off + i * 7 + 1, none⟩ = some (.int .i64 l[i].t.f0.n)
  c2 : ∀ i (h : i < l.length), w.cell? ⟨b, off + i * 7 + 2, none⟩ = some (.string l[i].t.f0.t)
  c3 : ∀ i (h : i < l.length), w.cell? ⟨b, off + i * 7 + 3, none⟩ = some (.string l[i].t.f0.y)
  c4 : ∀ i (h : i < l.length), w.cell? ⟨b, off + i * 7 + 4, none⟩ = some (.slice l[i].h1.a l[i].h1.len l[i].h1.cap)
  c5 : ∀ i (h : i < l.length), w.cell? ⟨b, off + i * 7 + 5, none⟩ = some (.slice l[i].h2.a l[i].h2.len l[i].h2.cap)
  c6 : ∀ i (h : i < l.length), w.cell? ⟨b, off + i * 7 + 6, none⟩ = some (.slice l[i].h3.a l[i].h3.len l[i].h3.cap)
theorem ThingRow.fr {w w1 : World} {lo b off : Nat} {l : List ThingE} (h : ThingRow w b off l) (hf : Fr lo w w1) (hb : lo ≤ b) : ThingRow w1 b off l :=
  ⟨Nat.lt_of_lt_of_le h.z hf.size, fun i hi => hf.cell _ _ _ hb (h.c0 i hi), fun i hi => hf.cell _ _ _ hb (h.c1 i hi), fun i hi => hf.cell _ _ _ hb (h.c2 i hi), fun i hi => hf.cell _ _ _ hb (h.c3 i hi), fun i hi => hf.cell _ _ _ hb (h.c4 i hi), fun i hi => hf.cell _ _ _ hb (h.c5 i hi), fun i hi => hf.cell _ _ _ hb (h.c6 i hi)⟩
/-- A slice of these: the rows, and what each of them holds. -/
def SqThingE (w : World) (lo : Nat) (h : Hd) (l : List ThingE) : Prop := h.len = l.length ∧ (l = [] ∨ ∃ b off, h.a = some ⟨b, off, none⟩ ∧ Lo w lo b ∧ ThingRow w b off l) ∧ ∀ e ∈ l, ThingM w lo e
theorem SqThingE.fr {w w1 : World} {lo : Nat} {h : Hd} {l : List ThingE} (s : SqThingE w lo h l) (hf : Fr lo w w1) : SqThingE w1 lo h l :=
  ⟨s.1, s.2.1.imp id fun ⟨b, off, e, hb, r⟩ => ⟨b, off, e, hb.fr hf r.z, r.fr hf hb.1⟩, fun e he => (s.2.2 e he).fr hf⟩
theorem SqThingE.lo {w : World} {lo lo' : Nat} {h : Hd} {l : List ThingE} (s : SqThingE w lo h l) (hl : lo' ≤ lo) : SqThingE w lo' h l :=
  ⟨s.1, s.2.1.imp id fun ⟨b, off, e, hb, r⟩ => ⟨b, off, e, hb.lo hl, r⟩, fun e he => (s.2.2 e he).lo hl⟩
theorem SqThingE.keep {w w1 : World} {lo : Nat} {h : Hd} {l : List ThingE} (s : SqThingE w lo h l) (hb : Below w.heap.size w w1) : SqThingE w1 lo h l := s.fr (Fr.below hb lo)
theorem SqThingE.at {w : World} {lo : Nat} {h : Hd} {l : List ThingE} (s : SqThingE w lo h l) {k : Nat} (hk : k < h.len) : ∃ b off, h.a = some ⟨b, off, none⟩ ∧ ThingRow w b off l := by
  rcases s.2.1 with e | ⟨b, off, e, _, r⟩
  · rw [s.1, e] at hk; simp at hk
  · exact ⟨b, off, e, r⟩
def SqThing (w : World) (lo : Nat) (h : Hd) (xs : List ThingT) : Prop := ∃ l : List ThingE, l.map (·.t) = xs ∧ SqThingE w lo h l
theorem SqThing.fr {w w1 : World} {lo : Nat} {h : Hd} {xs : List ThingT} (s : SqThing w lo h xs) (hf : Fr lo w w1) : SqThing w1 lo h xs := ⟨s.choose, s.choose_spec.1, s.choose_spec.2.fr hf⟩
theorem SqThing.lo {w : World} {lo lo' : Nat} {h : Hd} {xs : List ThingT} (s : SqThing w lo h xs) (hl : lo' ≤ lo) : SqThing w lo' h xs := ⟨s.choose, s.choose_spec.1, s.choose_spec.2.lo hl⟩
theorem SqThing.keep {w w1 : World} {lo : Nat} {h : Hd} {xs : List ThingT} (s : SqThing w lo h xs) (hb : Below w.heap.size w w1) : SqThing w1 lo h xs := s.fr (Fr.below hb lo)
theorem SqThing.len {w : World} {lo : Nat} {h : Hd} {xs : List ThingT} (s : SqThing w lo h xs) : h.len = xs.length := by
  obtain ⟨l, rfl, s⟩ := s
  rw [s.1]; simp

set_option maxRecDepth 20000 in
set_option maxHeartbeats 2000000 in
theorem szThing_n (e : ThingE) (left : Int) (w : World) (h0 : 0 ≤ left) (h1 : left ≤ 1048576) (ho : ThingN e.t) (hm : ThingM w 0 e) :
    Calls Tryz.prog 20 #[.agg #[.int .i64 e.t.f0.x, .int .i64 e.t.f0.n, .string e.t.f0.t, .string e.t.f0.y, .slice e.h1.a e.h1.len e.h1.cap, .slice e.h2.a e.h2.len e.h2.cap, .slice e.h3.a e.h3.len e.h3.cap], .int .i64 left] w fun r w' => (∃ m : Int, -1 ≤ m ∧ m ≤ left ∧ (0 ≤ m → ThingSm e.t) ∧ r = .returned (.int .i64 m)) ∧ Below w.heap.size w w' := by
  have q0 := hide (fun l w h0 h1 => szAtom_any e.t.f0.x e.t.f0.n l e.t.f0.t e.t.f0.y w h0 h1 ho.o0.t9 ho.o0.y9)
  have q1 := hide (fun l w h0 h1 hs => szAtomS_n e.h1 e.t.f1 l w h0 h1 ho.o1 ho.l1 hs)
  have M1 := hide hm.m1
  have q2 := hide (fun l w h0 h1 hs => szStringS_n e.h2 e.t.f2 l w h0 h1 ho.o2 ho.l2 hs)
  have M2 := hide hm.m2
  have q3 := hide (fun l w h0 h1 hs => szValueS_n e.h3 e.t.f3 l w h0 h1 ho.o3 ho.l3 hs)
  have M3 := hide hm.m3
  have R := hide (RowIs.new w #[.int .i64 e.t.f0.x, .int .i64 e.t.f0.n, .string e.t.f0.t, .string e.t.f0.y, .slice e.h1.a e.h1.len e.h1.cap, .slice e.h2.a e.h2.len e.h2.cap, .slice e.h3.a e.h3.len e.h3.cap] 51)
  have B := hide (bAl (Below.refl w.heap.size w) (.cells #[.int .i64 e.t.f0.x, .int .i64 e.t.f0.n, .string e.t.f0.t, .string e.t.f0.y, .slice e.h1.a e.h1.len e.h1.cap, .slice e.h2.a e.h2.len e.h2.cap, .slice e.h3.a e.h3.len e.h3.cap] 51))
  clear ho hm
  go_enter Tryz.func20, Tryz.ntmps20
  go_wp2_with fail
  refine (unhide q0 _ _ (by omega) (by omega)).mono ?_
  rintro r w1 ⟨⟨m0, x0, y0, rfl⟩, hb1⟩
  replace R := hide ((unhide R).keep hb1)
  replace B := hide (bTr (unhide B) hb1)
  clear hb1 
  by_cases e0 : m0 < 0
  · go_wp2_with fail
    go_ret
    exact ⟨⟨-1, by omega, by omega, by omega, rfl⟩, unhide B⟩
  have c4 := (unhide R).at (o := 4) (v := .slice e.h1.a e.h1.len e.h1.cap) rfl
  go_wp2_with fail
  refine (unhide q1 _ _ (by omega) (by omega) ((unhide M1).keep (unhide B))).mono ?_
  rintro r w2 ⟨⟨m1, x1, y1, z1, rfl⟩, hb1⟩
  have Z1 := hide z1
  clear z1
  replace R := hide ((unhide R).keep hb1)
  replace B := hide (bTr (unhide B) hb1)
  clear hb1 c4
  by_cases e1 : m1 < 0
  · go_wp2_with fail
    go_ret
    exact ⟨⟨-1, by omega, by omega, by omega, rfl⟩, unhide B⟩
  have c5 := (unhide R).at (o := 5) (v := .slice e.h2.a e.h2.len e.h2.cap) rfl
  go_wp2_with fail
  refine (unhide q2 _ _ (by omega) (by omega) ((unhide M2).keep (unhide B))).mono ?_
  rintro r w3 ⟨⟨m2, x2, y2, z2, rfl⟩, hb1⟩
  have Z2 := hide z2
  clear z2
  replace R := hide ((unhide R).keep hb1)
  replace B := hide (bTr (unhide B) hb1)
  clear hb1 c5
  by_cases e2 : m2 < 0
  · go_wp2_with fail
    go_ret
    exact ⟨⟨-1, by omega, by omega, by omega, rfl⟩, unhide B⟩
  have c6 := (unhide R).at (o := 6) (v := .slice e.h3.a e.h3.len e.h3.cap) rfl
  go_wp2_with fail
  refine (unhide q3 _ _ (by omega) (by omega) ((unhide M3).keep (unhide B))).mono ?_
  rintro r w4 ⟨⟨m3, x3, y3, z3, rfl⟩, hb1⟩
  have Z3 := hide z3
  clear z3
  replace R := hide ((unhide R).keep hb1)
  replace B := hide (bTr (unhide B) hb1)
  clear hb1 c6
  by_cases e3 : m3 < 0
  · go_wp2_with fail
    go_ret
    exact ⟨⟨-1, by omega, by omega, by omega, rfl⟩, unhide B⟩
  go_wp2_with fail
  go_ret
  exact ⟨⟨_, by omega, by omega, fun _ => ⟨unhide Z1 (by omega), unhide Z2 (by omega), (unhide Z3 (by omega)).1, (unhide Z3 (by omega)).2, trivial⟩, rfl⟩, unhide B⟩

set_option maxRecDepth 40000 in
set_option maxHeartbeats 8000000 in
theorem toThing_n (e : ThingE) (w : World) (hs : ThingSm e.t) (hm : ThingM w 0 e) :
    Calls Tryz.prog 24 #[.agg #[.int .i64 e.t.f0.x, .int .i64 e.t.f0.n, .string e.t.f0.t, .string e.t.f0.y, .slice e.h1.a e.h1.len e.h1.cap, .slice e.h2.a e.h2.len e.h2.cap, .slice e.h3.a e.h3.len e.h3.cap]] w fun r w' => (∃ e' : ThingE, e'.t = e.t ∧ r = .returned (.agg #[.int .i64 e'.t.f0.x, .int .i64 e'.t.f0.n, .string e'.t.f0.t, .string e'.t.f0.y, .slice e'.h1.a e'.h1.len e'.h1.cap, .slice e'.h2.a e'.h2.len e'.h2.cap, .slice e'.h3.a e'.h3.len e'.h3.cap]) ∧ ThingM w' w.heap.size e') ∧ Below w.heap.size w w' := by
  have q1 := hide (fun w hm => toAtomS_n e.h1 e.t.f1 w hs.l1 hm)
  have M1 := hide hm.m1
  have q2 := hide (fun w hm => toStringS_n e.h2 e.t.f2 w hs.l2 hm)
  have M2 := hide hm.m2
  have q3 := hide (fun w hm => toValueS_n e.h3 e.t.f3 w ⟨hs.l3, hs.o3⟩ hm)
  have M3 := hide hm.m3
  clear hs hm
  obtain ⟨W0, hW0⟩ : ∃ W, W = ((w.alloc (.cells #[.int .i64 e.t.f0.x, .int .i64 e.t.f0.n, .string e.t.f0.t, .string e.t.f0.y, .slice e.h1.a e.h1.len e.h1.cap, .slice e.h2.a e.h2.len e.h2.cap, .slice e.h3.a e.h3.len e.h3.cap] 51)).alloc (.cells #[.int .i64 0, .int .i64 0, .string ⟨#[]⟩, .string ⟨#[]⟩, .slice none 0 0, .slice none 0 0, .slice none 0 0] 56)).alloc (.cells #[.int .i64 0, .int .i64 0, .string ⟨#[]⟩, .string ⟨#[]⟩, .slice none 0 0, .slice none 0 0, .slice none 0 0] 56) := ⟨_, rfl⟩
  have z0 : W0.heap.size = w.heap.size + 1 + 1 + 1 := by rw [hW0]; simp
  have b0 : Below w.heap.size w W0 := by rw [hW0]; exact bAl (bAl (bAl (Below.refl _ _) _) _) _
  have A0 : RowIs W0 w.heap.size #[.int .i64 e.t.f0.x, .int .i64 e.t.f0.n, .string e.t.f0.t, .string e.t.f0.y, .slice e.h1.a e.h1.len e.h1.cap, .slice e.h2.a e.h2.len e.h2.cap, .slice e.h3.a e.h3.len e.h3.cap] 51 := by rw [hW0]; exact ((RowIs.new w _ _).keep (bAl (Below.refl _ _) _)).keep (bAl (Below.refl _ _) _)
  have Z0 : RowIs W0 (w.heap.size + 1) #[.int .i64 0, .int .i64 0, .string ⟨#[]⟩, .string ⟨#[]⟩, .slice none 0 0, .slice none 0 0, .slice none 0 0] 56 := by
    rw [hW0]
    have := (RowIs.new (w.alloc (.cells #[.int .i64 e.t.f0.x, .int .i64 e.t.f0.n, .string e.t.f0.t, .string e.t.f0.y, .slice e.h1.a e.h1.len e.h1.cap, .slice e.h2.a e.h2.len e.h2.cap, .slice e.h3.a e.h3.len e.h3.cap] 51)) #[.int .i64 0, .int .i64 0, .string ⟨#[]⟩, .string ⟨#[]⟩, .slice none 0 0, .slice none 0 0, .slice none 0 0] 56).keep (bAl (Below.refl _ _) (.cells #[.int .i64 0, .int .i64 0, .string ⟨#[]⟩, .string ⟨#[]⟩, .slice none 0 0, .slice none 0 0, .slice none 0 0] 56))
    simpa using this
  have O0 : RowIs W0 (w.heap.size + 1 + 1) #[.int .i64 0, .int .i64 0, .string ⟨#[]⟩, .string ⟨#[]⟩, .slice none 0 0, .slice none 0 0, .slice none 0 0] 56 := by
    rw [hW0]
    have := RowIs.new ((w.alloc (.cells #[.int .i64 e.t.f0.x, .int .i64 e.t.f0.n, .string e.t.f0.t, .string e.t.f0.y, .slice e.h1.a e.h1.len e.h1.cap, .slice e.h2.a e.h2.len e.h2.cap, .slice e.h3.a e.h3.len e.h3.cap] 51)).alloc (.cells #[.int .i64 0, .int .i64 0, .string ⟨#[]⟩, .string ⟨#[]⟩, .slice none 0 0, .slice none 0 0, .slice none 0 0] 56)) #[.int .i64 0, .int .i64 0, .string ⟨#[]⟩, .string ⟨#[]⟩, .slice none 0 0, .slice none 0 0, .slice none 0 0] 56
    simpa using this
  have HW := hide hW0
  have hne1 : w.heap.size ≠ w.heap.size + 1 + 1 := by omega
  have hne2 : w.heap.size + 1 ≠ w.heap.size + 1 + 1 := by omega
  clear hW0
  go_enter Tryz.func24, Tryz.ntmps24
  go_wp2_with fail
  rw [← unhide HW]
  clear HW
  have Oh := hide O0
  clear O0
  have Zh := hide Z0
  clear Z0
  have Ah := hide A0
  clear A0
  have Bh := hide b0
  have Gh : Hid (w.heap.size + 3 ≤ W0.heap.size) := hide (by omega)
  clear b0 z0
  refine (toAtom_any e.t.f0.x e.t.f0.n e.t.f0.t e.t.f0.y _).mono ?_
  rintro r v0 ⟨rfl, hb1⟩
  have Gn : Hid (w.heap.size + 3 ≤ v0.heap.size) := hide (Nat.le_trans (unhide Gh) hb1.size)
  clear Gh
  have Gh := Gn
  clear Gn
  replace Oh := hide ((unhide Oh).keep hb1)
  replace Zh := hide ((unhide Zh).keep hb1)
  replace Ah := hide ((unhide Ah).keep hb1)
  replace Bh := hide (bTr (unhide Bh) hb1)
  clear hb1
  have k_0 := (unhide Oh).at (o := 0) (v := .int .i64 0) rfl
  have g_0 := (unhide Oh).froz 0
  have k_1 := (unhide Oh).at (o := 1) (v := .int .i64 0) rfl
  have g_1 := (unhide Oh).froz 1
  have k_2 := (unhide Oh).at (o := 2) (v := .string ⟨#[]⟩) rfl
  have g_2 := (unhide Oh).froz 2
  have k_3 := (unhide Oh).at (o := 3) (v := .string ⟨#[]⟩) rfl
  have g_3 := (unhide Oh).froz 3
  have a_4 := (unhide Ah).at (o := 4) (v := .slice e.h1.a e.h1.len e.h1.cap) rfl
  obtain ⟨W1, hW⟩ : ∃ W, W = ((((v0.setCell ⟨w.heap.size + 1 + 1, 0, none⟩ (.int .i64 e.t.f0.x)).setCell ⟨w.heap.size + 1 + 1, 1, none⟩ (.int .i64 e.t.f0.n)).setCell ⟨w.heap.size + 1 + 1, 2, none⟩ (.string e.t.f0.t)).setCell ⟨w.heap.size + 1 + 1, 3, none⟩ (.string e.t.f0.y)) := ⟨_, rfl⟩
  have On : Hid (RowIs W1 (w.heap.size + 1 + 1) #[.int .i64 e.t.f0.x, .int .i64 e.t.f0.n, .string e.t.f0.t, .string e.t.f0.y, .slice none 0 0, .slice none 0 0, .slice none 0 0] 56) := hide (by have h := (((((unhide Oh).set 0 (.int .i64 e.t.f0.x)).set 1 (.int .i64 e.t.f0.n)).set 2 (.string e.t.f0.t)).set 3 (.string e.t.f0.y)); simp only [List.setIfInBounds_toArray, List.set_cons_zero, List.set_cons_succ] at h; rw [hW]; exact h)
  have Zn : Hid (RowIs W1 (w.heap.size + 1) #[.int .i64 0, .int .i64 0, .string ⟨#[]⟩, .string ⟨#[]⟩, .slice none 0 0, .slice none 0 0, .slice none 0 0] 56) := hide (by rw [hW]; exact (((((unhide Zh).setOther (o' := 0) (.int .i64 e.t.f0.x) hne2).setOther (o' := 1) (.int .i64 e.t.f0.n) hne2).setOther (o' := 2) (.string e.t.f0.t) hne2).setOther (o' := 3) (.string e.t.f0.y) hne2))
  have An : Hid (RowIs W1 w.heap.size #[.int .i64 e.t.f0.x, .int .i64 e.t.f0.n, .string e.t.f0.t, .string e.t.f0.y, .slice e.h1.a e.h1.len e.h1.cap, .slice e.h2.a e.h2.len e.h2.cap, .slice e.h3.a e.h3.len e.h3.cap] 51) := hide (by rw [hW]; exact (((((unhide Ah).setOther (o' := 0) (.int .i64 e.t.f0.x) hne1).setOther (o' := 1) (.int .i64 e.t.f0.n) hne1).setOther (o' := 2) (.string e.t.f0.t) hne1).setOther (o' := 3) (.string e.t.f0.y) hne1))
  have Bn : Hid (Below w.heap.size w W1) := hide (by rw [hW]; exact (bSt (bSt (bSt (bSt (unhide Bh) (b := w.heap.size + 1 + 1) (by omega) 0 (.int .i64 e.t.f0.x)) (b := w.heap.size + 1 + 1) (by omega) 1 (.int .i64 e.t.f0.n)) (b := w.heap.size + 1 + 1) (by omega) 2 (.string e.t.f0.t)) (b := w.heap.size + 1 + 1) (by omega) 3 (.string e.t.f0.y)))
  have Gn : Hid (w.heap.size + 3 ≤ W1.heap.size) := hide (by rw [hW]; simp only [size_sc]; exact unhide Gh)
  have HW := hide hW.symm
  clear hW Oh Zh Ah Bh Gh
  have Oh := On
  clear On
  have Zh := Zn
  clear Zn
  have Ah := An
  clear An
  have Bh := Bn
  clear Bn
  have Gh := Gn
  clear Gn
  go_wp2_with fail
  rw [unhide HW]
  clear HW k_0 g_0 k_1 g_1 k_2 g_2 k_3 g_3 a_4
  refine (unhide q1 _ ((unhide M1).keep (unhide Bh))).mono ?_
  rintro r v1 ⟨⟨k1, rfl, hk1⟩, hb1⟩
  have K1 := hide (hk1.lo (unhide Gh))
  clear hk1
  have Gn : Hid (w.heap.size + 3 ≤ v1.heap.size) := hide (Nat.le_trans (unhide Gh) hb1.size)
  clear Gh
  have Gh := Gn
  clear Gn
  replace Oh := hide ((unhide Oh).keep hb1)
  replace Zh := hide ((unhide Zh).keep hb1)
  replace Ah := hide ((unhide Ah).keep hb1)
  replace Bh := hide (bTr (unhide Bh) hb1)
  clear hb1
  have k_4 := (unhide Oh).at (o := 4) (v := .slice none 0 0) rfl
  have g_4 := (unhide Oh).froz 4
  have a_5 := (unhide Ah).at (o := 5) (v := .slice e.h2.a e.h2.len e.h2.cap) rfl
  obtain ⟨W2, hW⟩ : ∃ W, W = (v1.setCell ⟨w.heap.size + 1 + 1, 4, none⟩ (.slice k1.a k1.len k1.cap)) := ⟨_, rfl⟩
  have On : Hid (RowIs W2 (w.heap.size + 1 + 1) #[.int .i64 e.t.f0.x, .int .i64 e.t.f0.n, .string e.t.f0.t, .string e.t.f0.y, .slice k1.a k1.len k1.cap, .slice none 0 0, .slice none 0 0] 56) := hide (by have h := ((unhide Oh).set 4 (.slice k1.a k1.len k1.cap)); simp only [List.setIfInBounds_toArray, List.set_cons_zero, List.set_cons_succ] at h; rw [hW]; exact h)
  have Zn : Hid (RowIs W2 (w.heap.size + 1) #[.int .i64 0, .int .i64 0, .string ⟨#[]⟩, .string ⟨#[]⟩, .slice none 0 0, .slice none 0 0, .slice none 0 0] 56) := hide (by rw [hW]; exact ((unhide Zh).setOther (o' := 4) (.slice k1.a k1.len k1.cap) hne2))
  have An : Hid (RowIs W2 w.heap.size #[.int .i64 e.t.f0.x, .int .i64 e.t.f0.n, .string e.t.f0.t, .string e.t.f0.y, .slice e.h1.a e.h1.len e.h1.cap, .slice e.h2.a e.h2.len e.h2.cap, .slice e.h3.a e.h3.len e.h3.cap] 51) := hide (by rw [hW]; exact ((unhide Ah).setOther (o' := 4) (.slice k1.a k1.len k1.cap) hne1))
  have Bn : Hid (Below w.heap.size w W2) := hide (by rw [hW]; exact (bSt (unhide Bh) (b := w.heap.size + 1 + 1) (by omega) 4 (.slice k1.a k1.len k1.cap)))
  have Gn : Hid (w.heap.size + 3 ≤ W2.heap.size) := hide (by rw [hW]; simp only [size_sc]; exact unhide Gh)
  replace K1 := hide (show SqA W2 (w.heap.size + 3) k1 e.t.f1 by rw [hW]; exact (unhide K1).fr ((Fr.below (Below.refl _ v1) _).sets (.slice k1.a k1.len k1.cap) (by omega)))
  have HW := hide hW.symm
  clear hW Oh Zh Ah Bh Gh
  have Oh := On
  clear On
  have Zh := Zn
  clear Zn
  have Ah := An
  clear An
  have Bh := Bn
  clear Bn
  have Gh := Gn
  clear Gn
  go_wp2_with fail
  rw [unhide HW]
  clear HW k_4 g_4 a_5
  refine (unhide q2 _ ((unhide M2).keep (unhide Bh))).mono ?_
  rintro r v2 ⟨⟨k2, rfl, hk2⟩, hb1⟩
  have K2 := hide (hk2.lo (unhide Gh))
  clear hk2
  have Gn : Hid (w.heap.size + 3 ≤ v2.heap.size) := hide (Nat.le_trans (unhide Gh) hb1.size)
  clear Gh
  have Gh := Gn
  clear Gn
  replace Oh := hide ((unhide Oh).keep hb1)
  replace Zh := hide ((unhide Zh).keep hb1)
  replace Ah := hide ((unhide Ah).keep hb1)
  replace Bh := hide (bTr (unhide Bh) hb1)
  replace K1 := hide ((unhide K1).keep hb1)
  clear hb1
  have k_5 := (unhide Oh).at (o := 5) (v := .slice none 0 0) rfl
  have g_5 := (unhide Oh).froz 5
  have a_6 := (unhide Ah).at (o := 6) (v := .slice e.h3.a e.h3.len e.h3.cap) rfl
  obtain ⟨W3, hW⟩ : ∃ W, W = (v2.setCell ⟨w.heap.size + 1 + 1, 5, none⟩ (.slice k2.a k2.len k2.cap)) := ⟨_, rfl⟩
  have On : Hid (RowIs W3 (w.heap.size + 1 + 1) #[.int .i64 e.t.f0.x, .int .i64 e.t.f0.n, .string e.t.f0.t, .string e.t.f0.y, .slice k1.a k1.len k1.cap, .slice k2.a k2.len k2.cap, .slice none 0 0] 56) := hide (by have h := ((unhide Oh).set 5 (.slice k2.a k2.len k2.cap)); simp only [List.setIfInBounds_toArray, List.set_cons_zero, List.set_cons_succ] at h; rw [hW]; exact h)
  have Zn : Hid (RowIs W3 (w.heap.size + 1) #[.int .i64 0, .int .i64 0, .string ⟨#[]⟩, .string ⟨#[]⟩, .slice none 0 0, .slice none 0 0, .slice none 0 0] 56) := hide (by rw [hW]; exact ((unhide Zh).setOther (o' := 5) (.slice k2.a k2.len k2.cap) hne2))
  have An : Hid (RowIs W3 w.heap.size #[.int .i64 e.t.f0.x, .int .i64 e.t.f0.n, .string e.t.f0.t, .string e.t.f0.y, .slice e.h1.a e.h1.len e.h1.cap, .slice e.h2.a e.h2.len e.h2.cap, .slice e.h3.a e.h3.len e.h3.cap] 51) := hide (by rw [hW]; exact ((unhide Ah).setOther (o' := 5) (.slice k2.a k2.len k2.cap) hne1))
  have Bn : Hid (Below w.heap.size w W3) := hide (by rw [hW]; exact (bSt (unhide Bh) (b := w.heap.size + 1 + 1) (by omega) 5 (.slice k2.a k2.len k2.cap)))
  have Gn : Hid (w.heap.size + 3 ≤ W3.heap.size) := hide (by rw [hW]; simp only [size_sc]; exact unhide Gh)
  replace K1 := hide (show SqA W3 (w.heap.size + 3) k1 e.t.f1 by rw [hW]; exact (unhide K1).fr ((Fr.below (Below.refl _ v2) _).sets (.slice k2.a k2.len k2.cap) (by omega)))
  replace K2 := hide (show SqS W3 (w.heap.size + 3) k2 e.t.f2 by rw [hW]; exact (unhide K2).fr ((Fr.below (Below.refl _ v2) _).sets (.slice k2.a k2.len k2.cap) (by omega)))
  have HW := hide hW.symm
  clear hW Oh Zh Ah Bh Gh
  have Oh := On
  clear On
  have Zh := Zn
  clear Zn
  have Ah := An
  clear An
  have Bh := Bn
  clear Bn
  have Gh := Gn
  clear Gn
  go_wp2_with fail
  rw [unhide HW]
  clear HW k_5 g_5 a_6
  refine (unhide q3 _ ((unhide M3).keep (unhide Bh))).mono ?_
  rintro r v3 ⟨⟨k3, rfl, hk3⟩, hb1⟩
  have K3 := hide (hk3.lo (unhide Gh))
  clear hk3
  have Gn : Hid (w.heap.size + 3 ≤ v3.heap.size) := hide (Nat.le_trans (unhide Gh) hb1.size)
  clear Gh
  have Gh := Gn
  clear Gn
  replace Oh := hide ((unhide Oh).keep hb1)
  replace Zh := hide ((unhide Zh).keep hb1)
  replace Ah := hide ((unhide Ah).keep hb1)
  replace Bh := hide (bTr (unhide Bh) hb1)
  replace K1 := hide ((unhide K1).keep hb1)
  replace K2 := hide ((unhide K2).keep hb1)
  clear hb1
  have k_6 := (unhide Oh).at (o := 6) (v := .slice none 0 0) rfl
  have g_6 := (unhide Oh).froz 6
  obtain ⟨W4, hW⟩ : ∃ W, W = (v3.setCell ⟨w.heap.size + 1 + 1, 6, none⟩ (.slice k3.a k3.len k3.cap)) := ⟨_, rfl⟩
  have On : Hid (RowIs W4 (w.heap.size + 1 + 1) #[.int .i64 e.t.f0.x, .int .i64 e.t.f0.n, .string e.t.f0.t, .string e.t.f0.y, .slice k1.a k1.len k1.cap, .slice k2.a k2.len k2.cap, .slice k3.a k3.len k3.cap] 56) := hide (by have h := ((unhide Oh).set 6 (.slice k3.a k3.len k3.cap)); simp only [List.setIfInBounds_toArray, List.set_cons_zero, List.set_cons_succ] at h; rw [hW]; exact h)
  have Zn : Hid (RowIs W4 (w.heap.size + 1) #[.int .i64 0, .int .i64 0, .string ⟨#[]⟩, .string ⟨#[]⟩, .slice none 0 0, .slice none 0 0, .slice none 0 0] 56) := hide (by rw [hW]; exact ((unhide Zh).setOther (o' := 6) (.slice k3.a k3.len k3.cap) hne2))
  have An : Hid (RowIs W4 w.heap.size #[.int .i64 e.t.f0.x, .int .i64 e.t.f0.n, .string e.t.f0.t, .string e.t.f0.y, .slice e.h1.a e.h1.len e.h1.cap, .slice e.h2.a e.h2.len e.h2.cap, .slice e.h3.a e.h3.len e.h3.cap] 51) := hide (by rw [hW]; exact ((unhide Ah).setOther (o' := 6) (.slice k3.a k3.len k3.cap) hne1))
  have Bn : Hid (Below w.heap.size w W4) := hide (by rw [hW]; exact (bSt (unhide Bh) (b := w.heap.size + 1 + 1) (by omega) 6 (.slice k3.a k3.len k3.cap)))
  have Gn : Hid (w.heap.size + 3 ≤ W4.heap.size) := hide (by rw [hW]; simp only [size_sc]; exact unhide Gh)
  replace K1 := hide (show SqA W4 (w.heap.size + 3) k1 e.t.f1 by rw [hW]; exact (unhide K1).fr ((Fr.below (Below.refl _ v3) _).sets (.slice k3.a k3.len k3.cap) (by omega)))
  replace K2 := hide (show SqS W4 (w.heap.size + 3) k2 e.t.f2 by rw [hW]; exact (unhide K2).fr ((Fr.below (Below.refl _ v3) _).sets (.slice k3.a k3.len k3.cap) (by omega)))
  replace K3 := hide (show SqValue W4 (w.heap.size + 3) k3 e.t.f3 by rw [hW]; exact (unhide K3).fr ((Fr.below (Below.refl _ v3) _).sets (.slice k3.a k3.len k3.cap) (by omega)))
  have HW := hide hW.symm
  clear hW Oh Zh Ah Bh Gh
  have Oh := On
  clear On
  have Zh := Zn
  clear Zn
  have Ah := An
  clear An
  have Bh := Bn
  clear Bn
  have Gh := Gn
  clear Gn
  go_upto_region 6 with fail
  rw [unhide HW]
  clear HW k_6 g_6
  go_step
  refine wpList_load_row rfl 56 _ rfl (w.heap.size + 1 + 1) rfl 56 _ (0, 0) _ (unhide Oh) Tryz.underlying56 rfl (by kernel_rfl) ?_
  refine wpList_store_row rfl 56 _ _ rfl (w.heap.size + 1) #[.int .i64 e.t.f0.x, .int .i64 e.t.f0.n, .string e.t.f0.t, .string e.t.f0.y, .slice k1.a k1.len k1.cap, .slice k2.a k2.len k2.cap, .slice k3.a k3.len k3.cap] rfl rfl 56 _ (unhide Zh) (by kernel_rfl) rfl (by simp [Value.oneCell']) ?_
  have Z6 := hide (setRow_heap W4 (w.heap.size + 1) _ #[.int .i64 e.t.f0.x, .int .i64 e.t.f0.n, .string e.t.f0.t, .string e.t.f0.y, .slice k1.a k1.len k1.cap, .slice k2.a k2.len k2.cap, .slice k3.a k3.len k3.cap] _ _ (unhide Zh))
  go_wp2_with fail
  refine bodyPost_ret (v := .agg #[.int .i64 e.t.f0.x, .int .i64 e.t.f0.n, .string e.t.f0.t, .string e.t.f0.y, .slice k1.a k1.len k1.cap, .slice k2.a k2.len k2.cap, .slice k3.a k3.len k3.cap]) (results_cell_row rfl _ _ (w.heap.size + 1) 56 _ (0, 0) _ rfl (unhide Z6) Tryz.underlying56 rfl (by kernel_rfl)) rfl ⟨⟨⟨e.t, k1, k2, k3⟩, rfl, rfl, ⟨((unhide K1).fr ((Fr.below (Below.refl _ _) _).row _ (by omega))).lo (by omega), ((unhide K2).fr ((Fr.below (Below.refl _ _) _).row _ (by omega))).lo (by omega), ((unhide K3).fr ((Fr.below (Below.refl _ _) _).row _ (by omega))).lo (by omega), trivial⟩⟩, bRow (unhide Bh) (by omega) _⟩

set_option maxRecDepth 20000 in
set_option maxHeartbeats 2000000 in
theorem eqThing_n (e1 e2 : ThingE) (w : World) (ht : e2.t = e1.t) (hn : ThingN e1.t) (m1 : ThingM w 0 e1) (m2 : ThingM w 0 e2) :
    Calls Tryz.prog 32 #[.agg #[.int .i64 e1.t.f0.x, .int .i64 e1.t.f0.n, .string e1.t.f0.t, .string e1.t.f0.y, .slice e1.h1.a e1.h1.len e1.h1.cap, .slice e1.h2.a e1.h2.len e1.h2.cap, .slice e1.h3.a e1.h3.len e1.h3.cap], .agg #[.int .i64 e2.t.f0.x, .int .i64 e2.t.f0.n, .string e2.t.f0.t, .string e2.t.f0.y, .slice e2.h1.a e2.h1.len e2.h1.cap, .slice e2.h2.a e2.h2.len e2.h2.cap, .slice e2.h3.a e2.h3.len e2.h3.cap]] w fun r w' => r = .returned (.bool true) ∧ Below w.heap.size w w' := by
  obtain ⟨t, h1, h2, h3⟩ := e1
  obtain ⟨t', g1, g2, g3⟩ := e2
  simp only at ht
  subst ht
  have q1 := hide (fun w u1 u2 => eqAtomS_n h1 g1 t'.f1 w hn.l1 u1 u2)
  have M1 := hide m1.m1
  have P1 := hide m2.m1
  have q2 := hide (fun w u1 u2 => eqStringS_n h2 g2 t'.f2 w hn.l2 u1 u2)
  have M2 := hide m1.m2
  have P2 := hide m2.m2
  have q3 := hide (fun w u1 u2 => eqValueS_n h3 g3 t'.f3 w hn.l3 hn.o3 u1 u2)
  have M3 := hide m1.m3
  have P3 := hide m2.m3
  have X := hide ((RowIs.new w #[.int .i64 t'.f0.x, .int .i64 t'.f0.n, .string t'.f0.t, .string t'.f0.y, .slice h1.a h1.len h1.cap, .slice h2.a h2.len h2.cap, .slice h3.a h3.len h3.cap] 56).keep (bAl (Below.refl _ _) (.cells #[.int .i64 t'.f0.x, .int .i64 t'.f0.n, .string t'.f0.t, .string t'.f0.y, .slice g1.a g1.len g1.cap, .slice g2.a g2.len g2.cap, .slice g3.a g3.len g3.cap] 56)))
  have Y : Hid (RowIs ((w.alloc (.cells #[.int .i64 t'.f0.x, .int .i64 t'.f0.n, .string t'.f0.t, .string t'.f0.y, .slice h1.a h1.len h1.cap, .slice h2.a h2.len h2.cap, .slice h3.a h3.len h3.cap] 56)).alloc (.cells #[.int .i64 t'.f0.x, .int .i64 t'.f0.n, .string t'.f0.t, .string t'.f0.y, .slice g1.a g1.len g1.cap, .slice g2.a g2.len g2.cap, .slice g3.a g3.len g3.cap] 56)) (w.heap.size + 1) #[.int .i64 t'.f0.x, .int .i64 t'.f0.n, .string t'.f0.t, .string t'.f0.y, .slice g1.a g1.len g1.cap, .slice g2.a g2.len g2.cap, .slice g3.a g3.len g3.cap] 56) := hide (by have := RowIs.new (w.alloc (.cells #[.int .i64 t'.f0.x, .int .i64 t'.f0.n, .string t'.f0.t, .string t'.f0.y, .slice h1.a h1.len h1.cap, .slice h2.a h2.len h2.cap, .slice h3.a h3.len h3.cap] 56)) #[.int .i64 t'.f0.x, .int .i64 t'.f0.n, .string t'.f0.t, .string t'.f0.y, .slice g1.a g1.len g1.cap, .slice g2.a g2.len g2.cap, .slice g3.a g3.len g3.cap] 56; simpa using this)
  have B := hide (bAl (bAl (Below.refl w.heap.size w) (.cells #[.int .i64 t'.f0.x, .int .i64 t'.f0.n, .string t'.f0.t, .string t'.f0.y, .slice h1.a h1.len h1.cap, .slice h2.a h2.len h2.cap, .slice h3.a h3.len h3.cap] 56)) (.cells #[.int .i64 t'.f0.x, .int .i64 t'.f0.n, .string t'.f0.t, .string t'.f0.y, .slice g1.a g1.len g1.cap, .slice g2.a g2.len g2.cap, .slice g3.a g3.len g3.cap] 56))
  clear m1 m2 hn
  go_enter Tryz.func32, Tryz.ntmps32
  go_wp2_with fail
  refine (eqAtom_same _ _ _ _ _).mono ?_
  rintro r w1 ⟨rfl, hb1⟩
  replace X := hide ((unhide X).keep hb1)
  replace Y := hide ((unhide Y).keep hb1)
  replace B := hide (bTr (unhide B) hb1)
  clear hb1 
  have c4 := (unhide X).at (o := 4) (v := .slice h1.a h1.len h1.cap) rfl
  have d4 := (unhide Y).at (o := 4) (v := .slice g1.a g1.len g1.cap) rfl
  go_wp2_with fail
  refine (unhide q1 _ ((unhide M1).keep (unhide B)) ((unhide P1).keep (unhide B))).mono ?_
  rintro r w2 ⟨rfl, hb1⟩
  replace X := hide ((unhide X).keep hb1)
  replace Y := hide ((unhide Y).keep hb1)
  replace B := hide (bTr (unhide B) hb1)
  clear hb1 c4 d4
  have c5 := (unhide X).at (o := 5) (v := .slice h2.a h2.len h2.cap) rfl
  have d5 := (unhide Y).at (o := 5) (v := .slice g2.a g2.len g2.cap) rfl
  go_wp2_with fail
  refine (unhide q2 _ ((unhide M2).keep (unhide B)) ((unhide P2).keep (unhide B))).mono ?_
  rintro r w3 ⟨rfl, hb1⟩
  replace X := hide ((unhide X).keep hb1)
  replace Y := hide ((unhide Y).keep hb1)
  replace B := hide (bTr (unhide B) hb1)
  clear hb1 c5 d5
  have c6 := (unhide X).at (o := 6) (v := .slice h3.a h3.len h3.cap) rfl
  have d6 := (unhide Y).at (o := 6) (v := .slice g3.a g3.len g3.cap) rfl
  go_wp2_with fail
  refine (unhide q3 _ ((unhide M3).keep (unhide B)) ((unhide P3).keep (unhide B))).mono ?_
  rintro r w4 ⟨rfl, hb1⟩
  replace X := hide ((unhide X).keep hb1)
  replace Y := hide ((unhide Y).keep hb1)
  replace B := hide (bTr (unhide B) hb1)
  clear hb1 c6 d6
  go_wp2_with fail
  go_ret
  exact ⟨rfl, unhide B⟩

set_option maxRecDepth 20000 in
set_option maxHeartbeats 2000000 in
theorem szThingS_n (h : Hd) (xs : List ThingT) (left : Int) (w : World) (h0 : 0 ≤ left) (h1 : left ≤ 1048576) (ho : ∀ q ∈ xs, ThingN q) (hl : xs.length ≤ maxLen) (hs : SqThing w 0 h xs) :
    Calls Tryz.prog 5 #[.slice h.a h.len h.cap, .int .i64 left] w fun e w' => (∃ m : Int, -1 ≤ m ∧ m ≤ left ∧ (0 ≤ m → xs.length ≤ 1048576 ∧ ∀ q ∈ xs, ThingSm q) ∧ e = .returned (.int .i64 m)) ∧ Below w.heap.size w w' := by
  obtain ⟨l, rfl, hs⟩ := hs
  have ho' : ∀ q ∈ l, ThingN q.t := fun q hq => ho _ (List.mem_map_of_mem hq)
  have HSM : Hid ((∀ i (h : i < l.length), ThingSm l[i].t) → ∀ q ∈ l.map (·.t), ThingSm q) := hide (fun g q hq => by
    obtain ⟨e, he, rfl⟩ := List.mem_map.1 hq
    obtain ⟨i, hi, rfl⟩ := List.getElem_of_mem he
    exact g i hi)
  have hll : (l.map (·.t)).length = l.length := by simp
  rw [hll] at hl ⊢
  clear ho hll
  unfold maxLen at hl
  have hle := hs.1
  obtain ⟨a, len, cap⟩ := h
  simp only at hle
  by_cases hlen : left < (len : Int)
  · clear hs ho' HSM
    go_enter Tryz.func5, Tryz.ntmps5
    go_wp2
    go_ret
    exact ⟨⟨-1, by omega, by omega, by omega, rfl⟩, Below.refl _ _⟩
  have d1 : decide (left - (len : Int) < 0) = false := by simp; omega
  have HS := hide hs
  have HO := hide ho'
  clear hs ho'
  go_enter Tryz.func5, Tryz.ntmps5
  go_wp2
  go_loopw [1, 5] (fun m i w' => ∃ (k : Nat) (q : Int), k ≤ len ∧ 0 ≤ q ∧ q ≤ left ∧ i = .int .i64 k ∧ m = .int .i64 q ∧ Hid (∀ i (h : i < l.length), i < k → ThingSm l[i].t) ∧ Below w.heap.size w w') (fun _ i _ => len - (Go.RowKit.intOf i).toNat)
  case atStart => exact ⟨0, _, Nat.zero_le _, by omega, by omega, rfl, rfl, hide (fun i _ h => absurd h (Nat.not_lt_zero _)), Below.refl _ _⟩
  case round =>
    obtain ⟨k, q, hk, hq1, hq2, rfl, rfl, hall, hbel⟩ := hrel
    by_cases hlt : k < len
    · obtain ⟨b, off, e0, hrow⟩ := ((unhide HS).keep hbel).at hlt
      simp only at e0
      subst e0
      have hk' : k < l.length := by omega
      have c0 := hrow.c0 k hk'
      have c1 := hrow.c1 k hk'
      have c2 := hrow.c2 k hk'
      have c3 := hrow.c3 k hk'
      have c4 := hrow.c4 k hk'
      have c5 := hrow.c5 k hk'
      have c6 := hrow.c6 k hk'
      have hz := hide (fun q (w : World) h0 h1 hb => szThing_n l[k] q w h0 h1 (unhide HO _ (List.getElem_mem hk')) (((unhide HS).2.2 _ (List.getElem_mem hk')).keep hb))
      have hst := hide (show ThingSm l[k].t → ∀ i (h : i < l.length), i < k + 1 → ThingSm l[i].t from fun hle i hi hik => by
        rcases Nat.lt_or_ge i k with h | h
        · exact unhide hall i hi h
        · obtain rfl : i = k := by omega
          exact hle)
      clear hrow
      generalize l[k] = A at hz hst c0 c1 c2 c3 c4 c5 c6
      go_wp2_with fail
      refine (unhide hz _ _ (by omega) (by omega) hbel).mono ?_
      rintro e w1 ⟨⟨m, hm1, hm2, hm3, rfl⟩, hb1⟩
      by_cases hm : m < 0
      · go_wp2_with fail
        go_ret
        exact ⟨⟨-1, by omega, by omega, by omega, rfl⟩, bTr hbel hb1⟩
      · have hst2 := hide (unhide hst (hm3 (by omega)))
        go_wp2_with fail
        exact ⟨⟨k + 1, m, by omega, by omega, by omega, by go_num, rfl, hst2, bTr hbel hb1⟩, by simp [Go.RowKit.intOf]; omega⟩
    · go_wp2_with fail
      go_ret
      exact ⟨⟨q, by omega, by omega, fun _ => ⟨by omega, unhide HSM fun i hi => unhide hall i hi (by omega)⟩, rfl⟩, hbel⟩

theorem info_Thing : (Tryz.prog.info? 56).map (fun i => (i.zero, i.size, i.bytes)) = some (some (.agg #[.int .i64 0, .int .i64 0, .string ByteArray.empty, .string ByteArray.empty, .slice none 0 0, .slice none 0 0, .slice none 0 0]), 7, 120) := by kernel_rfl
theorem make_Thing (len : Nat) (w : World) (h : len ≤ 1048576) : ∃ w1 C, (Instr.makeSlice 29 (.int .i64 (len : Int)) (.int .i64 (len : Int))).run Tryz.prog w = .ok (.slice (some ⟨w.heap.size, 0, none⟩) len len) w1 ∧
    Below w.heap.size w w1 ∧ RowIs w1 w.heap.size C 56 ∧ C.size = len * 7 := by
  obtain ⟨i, h1, h2⟩ := Option.map_eq_some_iff.1 info_Thing
  simp only [Prod.mk.injEq] at h2
  obtain ⟨hz, hsz, hby⟩ := h2
  have hr := run_make (P := Tryz.prog) w 29 56 i _ Tryz.underlying29 h1 hz .i64 .i64 (len : Int) (len : Int) (by omega) (by omega) (by rw [hby]; omega) (by omega)
  rw [Int.toNat_natCast, hsz] at hr
  exact ⟨_, _, hr, bAl (Below.refl _ _) _, RowIs.new _ _ _, size_madeCells _ _⟩
def FilledThing (C : Array Value) (l : List ThingE) : Prop := ∀ i (h : i < l.length), C[i * 7]? = some (.int .i64 l[i].t.f0.x) ∧ C[i * 7 + 1]? = some (.int .i64 l[i].t.f0.n) ∧ C[i * 7 + 2]? = some (.string l[i].t.f0.t) ∧ C[i * 7 + 3]? = some (.string l[i].t.f0.y) ∧ C[i * 7 + 4]? = some (.slice l[i].h1.a l[i].h1.len l[i].h1.cap) ∧ C[i * 7 + 5]? = some (.slice l[i].h2.a l[i].h2.len l[i].h2.cap) ∧ C[i * 7 + 6]? = some (.slice l[i].h3.a l[i].h3.len l[i].h3.cap)
def setThing (C : Array Value) (k : Nat) (x : ThingE) : Array Value := (((((((C.setIfInBounds (k * 7) (.int .i64 x.t.f0.x)).setIfInBounds (k * 7 + 1) (.int .i64 x.t.f0.n)).setIfInBounds (k * 7 + 2) (.string x.t.f0.t)).setIfInBounds (k * 7 + 3) (.string x.t.f0.y)).setIfInBounds (k * 7 + 4) (.slice x.h1.a x.h1.len x.h1.cap)).setIfInBounds (k * 7 + 5) (.slice x.h2.a x.h2.len x.h2.cap)).setIfInBounds (k * 7 + 6) (.slice x.h3.a x.h3.len x.h3.cap))
theorem size_setThing (C : Array Value) (k : Nat) (x : ThingE) : (setThing C k x).size = C.size := by simp [setThing]
theorem FilledThing.snoc {C : Array Value} {l : List ThingE} (h : FilledThing C l) (x : ThingE) (hC : l.length * 7 + 7 ≤ C.size) : FilledThing (setThing C l.length x) (l ++ [x]) := by
  intro i hi
  unfold setThing
  by_cases e : i = l.length
  · subst e
    have s0 : l.length * 7 < C.size := by omega
    have s1 : l.length * 7 + 1 < C.size := by omega
    have s2 : l.length * 7 + 2 < C.size := by omega
    have s3 : l.length * 7 + 3 < C.size := by omega
    have s4 : l.length * 7 + 4 < C.size := by omega
    have s5 : l.length * 7 + 5 < C.size := by omega
    have s6 : l.length * 7 + 6 < C.size := by omega
    simp [s0, s1, s2, s3, s4, s5, s6]
  · have hi' : i < l.length := by simp at hi; omega
    have := h i hi'
    rw [List.getElem_append_left hi']
    simp only [Array.getElem?_setIfInBounds]
    repeat rw [if_neg (by omega)]
    exact this
theorem FilledThing.row {w : World} {b : Nat} {C : Array Value} {T : TypeId} {l : List ThingE} (h : FilledThing C l) (hr : RowIs w b C T) : ThingRow w b 0 l :=
  ⟨hr.lt, fun i hi => by rw [Nat.zero_add, hr.cell]; exact (h i hi).1, fun i hi => by rw [Nat.zero_add, hr.cell]; exact (h i hi).2.1, fun i hi => by rw [Nat.zero_add, hr.cell]; exact (h i hi).2.2.1, fun i hi => by rw [Nat.zero_add, hr.cell]; exact (h i hi).2.2.2.1, fun i hi => by rw [Nat.zero_add, hr.cell]; exact (h i hi).2.2.2.2.1, fun i hi => by rw [Nat.zero_add, hr.cell]; exact (h i hi).2.2.2.2.2.1, fun i hi => by rw [Nat.zero_add, hr.cell]; exact (h i hi).2.2.2.2.2.2⟩
set_option maxRecDepth 100000 in
set_option maxHeartbeats 4000000 in
theorem toThingS_n (h : Hd) (xs : List ThingT) (w : World) (hl : xs.length ≤ 1048576 ∧ ∀ q ∈ xs, ThingSm q) (hs : SqThing w 0 h xs) :
    Calls Tryz.prog 8 #[.slice h.a h.len h.cap] w fun e w' => (∃ h' : Hd, e = .returned (.slice h'.a h'.len h'.cap) ∧ SqThing w' w.heap.size h' xs) ∧ Below w.heap.size w w' := by
  obtain ⟨l, rfl, hs⟩ := hs
  have hsm : ∀ q ∈ l, ThingSm q.t := fun q hq => hl.2 _ (List.mem_map_of_mem hq)
  have hll : l.length ≤ 1048576 := by have := hl.1; simpa using this
  clear hl
  have hle := hs.1
  obtain ⟨a, len, cap⟩ := h
  simp only at hle
  obtain ⟨w1, C1, hrun, hb1, hr1, hC1⟩ := make_Thing len w (by omega)
  have HS := hide hs
  have HM := hide hsm
  have HB1 := hide hb1
  have HR1 := hide hr1
  have HL := hide hle
  clear hs hb1 hr1 hsm hle
  go_enter Tryz.func8, Tryz.ntmps8
  go_wp2
  clear hrun
  go_loopw [4] (fun i w' => ∃ (k : Nat) (C : Array Value) (l' : List ThingE), k ≤ len ∧ i = .int .i64 k ∧ Hid (l'.length = k ∧ l'.map (·.t) = (l.map (·.t)).take k) ∧ Hid (Below w.heap.size w w') ∧ Hid (RowIs w' w.heap.size C 56) ∧ Hid (C.size = len * 7) ∧ Hid (FilledThing C l') ∧ Hid (∀ e ∈ l', ThingM w' (w.heap.size + 1) e)) (fun i _ => len - (Go.RowKit.intOf i).toNat)
  case atStart => exact ⟨0, C1, [], Nat.zero_le _, rfl, hide ⟨rfl, by simp⟩, HB1, HR1, hide hC1, hide (fun i h => absurd h (Nat.not_lt_zero _)), hide (fun e he => by cases he)⟩
  case round =>
    obtain ⟨k, C, l', hk, rfl, hl', hb, hr, hC, hF, hMs⟩ := hrel
    by_cases hlt : k < len
    · obtain ⟨b, off, e0, hrow⟩ := ((unhide HS).keep (unhide hb)).at hlt
      simp only at e0
      subst e0
      have hk' : k < l.length := by have := unhide HL; omega
      have c0 := hrow.c0 k hk'
      have c1 := hrow.c1 k hk'
      have c2 := hrow.c2 k hk'
      have c3 := hrow.c3 k hk'
      have c4 := hrow.c4 k hk'
      have c5 := hrow.c5 k hk'
      have c6 := hrow.c6 k hk'
      have ht := hide (fun (w : World) hb => toThing_n l[k] w (unhide HM _ (List.getElem_mem hk')) (((unhide HS).2.2 _ (List.getElem_mem hk')).keep hb))
      have htk : Hid (∀ A' : ThingE, A'.t = l[k].t → (l' ++ [A']).length = k + 1 ∧ (l' ++ [A']).map (·.t) = (l.map (·.t)).take (k + 1)) := hide (fun A' e => by
        refine ⟨by simp [(unhide hl').1], ?_⟩
        rw [List.map_append, (unhide hl').2, List.take_add_one]
        simp [hk', e])
      clear hrow hC1
      generalize l[k] = A at ht htk c0 c1 c2 c3 c4 c5 c6
      go_wp2_with fail
      refine (unhide ht _ (unhide hb)).mono ?_
      rintro e w2 ⟨⟨A', eA, rfl, hMA⟩, hb2⟩
      have zb : w.heap.size < wr.heap.size := (unhide hr).lt
      have hMA' := hide (hMA.lo (lo' := w.heap.size + 1) zb)
      replace hr := hide ((unhide hr).keep hb2)
      replace hb := hide (bTr (unhide hb) hb2)
      replace hMs := hide (fun e he => (unhide hMs e he).keep hb2)
      have hF' := hide ((unhide hF).snoc A' (by rw [unhide hC, (unhide hl').1]; omega))
      have hl2 := hide (unhide htk A' eA)
      have el : l'.length = k := (unhide hl').1
      rw [el] at hF'
      have s9 : k * 7 + 6 < C.size := by rw [unhide hC]; omega
      obtain ⟨D0, d0⟩ : ∃ D, C[k * 7]? = some D := ⟨_, Array.getElem?_eq_getElem (by omega)⟩
      have g0 := (unhide hr).at d0
      have y0 := (unhide hr).froz (k * 7)
      clear d0
      obtain ⟨D1, d1⟩ : ∃ D, C[k * 7 + 1]? = some D := ⟨_, Array.getElem?_eq_getElem (by omega)⟩
      have g1 := (unhide hr).at d1
      have y1 := (unhide hr).froz (k * 7 + 1)
      clear d1
      obtain ⟨D2, d2⟩ : ∃ D, C[k * 7 + 2]? = some D := ⟨_, Array.getElem?_eq_getElem (by omega)⟩
      have g2 := (unhide hr).at d2
      have y2 := (unhide hr).froz (k * 7 + 2)
      clear d2
      obtain ⟨D3, d3⟩ : ∃ D, C[k * 7 + 3]? = some D := ⟨_, Array.getElem?_eq_getElem (by omega)⟩
      have g3 := (unhide hr).at d3
      have y3 := (unhide hr).froz (k * 7 + 3)
      clear d3
      obtain ⟨D4, d4⟩ : ∃ D, C[k * 7 + 4]? = some D := ⟨_, Array.getElem?_eq_getElem (by omega)⟩
      have g4 := (unhide hr).at d4
      have y4 := (unhide hr).froz (k * 7 + 4)
      clear d4
      obtain ⟨D5, d5⟩ : ∃ D, C[k * 7 + 5]? = some D := ⟨_, Array.getElem?_eq_getElem (by omega)⟩
      have g5 := (unhide hr).at d5
      have y5 := (unhide hr).froz (k * 7 + 5)
      clear d5
      obtain ⟨D6, d6⟩ : ∃ D, C[k * 7 + 6]? = some D := ⟨_, Array.getElem?_eq_getElem (by omega)⟩
      have g6 := (unhide hr).at d6
      have y6 := (unhide hr).froz (k * 7 + 6)
      clear d6
      clear c0 c1 c2 c3 c4 c5 c6 hb2 hMA eA htk hF hl' ht
      go_wp2_with fail
      refine ⟨⟨k + 1, setThing C k A', l' ++ [A'], by omega, by go_num, hl2, hide ?_, hide ?_, hide (by rw [size_setThing]; exact unhide hC), hF', hide ?_⟩, by simp [Go.RowKit.intOf]; omega⟩
      · repeat refine bSt ?_ (Nat.le_refl _) _ _
        exact unhide hb
      · exact (((((((unhide hr).set _ _).set _ _).set _ _).set _ _).set _ _).set _ _).set _ _
      · have fr : Fr (w.heap.size + 1) w2 _ := ((((((((Fr.below (Below.refl _ w2) _).sets (o' := k * 7) (.int .i64 A'.t.f0.x) (Nat.lt_succ_self _)).sets (o' := k * 7 + 1) (.int .i64 A'.t.f0.n) (Nat.lt_succ_self _)).sets (o' := k * 7 + 2) (.string A'.t.f0.t) (Nat.lt_succ_self _)).sets (o' := k * 7 + 3) (.string A'.t.f0.y) (Nat.lt_succ_self _)).sets (o' := k * 7 + 4) (.slice A'.h1.a A'.h1.len A'.h1.cap) (Nat.lt_succ_self _)).sets (o' := k * 7 + 5) (.slice A'.h2.a A'.h2.len A'.h2.cap) (Nat.lt_succ_self _)).sets (o' := k * 7 + 6) (.slice A'.h3.a A'.h3.len A'.h3.cap) (Nat.lt_succ_self _))
        intro e he
        rcases List.mem_append.1 he with h | h
        · exact (unhide hMs e h).fr fr
        · obtain rfl : e = A' := by simpa using h
          exact (unhide hMA').fr fr
    · go_wp2_with fail
      go_ret
      have hle := unhide HL
      have e : k = l.length := by omega
      have el : l'.length = k := (unhide hl').1
      exact ⟨⟨⟨some ⟨w.heap.size, 0, none⟩, len, len⟩, rfl, l', by rw [(unhide hl').2, e, List.take_of_length_le (by simp)], by simp only; omega, .inr ⟨_, _, rfl, Lo.own (fun o => (unhide hr).froz o), (unhide hF).row (unhide hr)⟩, fun e he => (unhide hMs e he).lo (Nat.le_succ _)⟩, unhide hb⟩

set_option maxRecDepth 20000 in
set_option maxHeartbeats 4000000 in
theorem eqThingS_n (h g : Hd) (xs : List ThingT) (w : World) (hl : xs.length ≤ maxLen) (hn : ∀ q ∈ xs, ThingN q) (h1 : SqThing w 0 h xs) (h2 : SqThing w 0 g xs) :
    Calls Tryz.prog 12 #[.slice h.a h.len h.cap, .slice g.a g.len g.cap] w fun e w' => e = .returned (.bool true) ∧ Below w.heap.size w w' := by
  obtain ⟨l, rfl, h1⟩ := h1
  obtain ⟨m, em, h2⟩ := h2
  have hn' : ∀ q ∈ l, ThingN q.t := fun q hq => hn _ (List.mem_map_of_mem hq)
  have elm : m.length = l.length := by have := congrArg List.length em; simpa using this
  have het : ∀ i (hi : i < l.length), (m[i]'(by omega)).t = l[i].t := fun i hi => by
    have := List.getElem_of_eq em (i := i) (by simp; omega)
    simpa using this
  have hle := h1.1
  have hge := h2.1
  have hlm : l.length ≤ maxLen := by simpa using hl
  unfold maxLen at hlm
  obtain ⟨a1, len1, c1⟩ := h
  obtain ⟨a2, len2, c2⟩ := g
  simp only at hle hge
  obtain rfl : len1 = len2 := by omega
  have H1 := hide h1
  have H2 := hide h2
  have HN := hide hn'
  have HT := hide het
  clear h1 h2 hn hn' het em hl
  go_enter Tryz.func12, Tryz.ntmps12
  go_wp2
  go_loopw [5] (fun i w' => ∃ k : Nat, k ≤ len1 ∧ i = .int .i64 k ∧ Hid (Below w.heap.size w w')) (fun i _ => len1 - (Go.RowKit.intOf i).toNat)
  case atStart => exact ⟨0, Nat.zero_le _, rfl, hide (Below.refl _ _)⟩
  case round =>
    obtain ⟨k, hk, rfl, hbel⟩ := hrel
    by_cases hlt : k < len1
    · have hk' : k < l.length := by omega
      have hk2 : k < m.length := by omega
      obtain ⟨b, off, e0, r1⟩ := ((unhide H1).keep (unhide hbel)).at hlt
      obtain ⟨b', off', e1, r2⟩ := ((unhide H2).keep (unhide hbel)).at hlt
      simp only at e0 e1
      subst e0 e1
      have p0 := r1.c0 k hk'
      have p1 := r1.c1 k hk'
      have p2 := r1.c2 k hk'
      have p3 := r1.c3 k hk'
      have p4 := r1.c4 k hk'
      have p5 := r1.c5 k hk'
      have p6 := r1.c6 k hk'
      have q0 := r2.c0 k hk2
      have q1 := r2.c1 k hk2
      have q2 := r2.c2 k hk2
      have q3 := r2.c3 k hk2
      have q4 := r2.c4 k hk2
      have q5 := r2.c5 k hk2
      have q6 := r2.c6 k hk2
      have z1 := r1.z
      have z2 := r2.z
      have Q := hide (fun (q : Kept wr) => eqThing_n l[k] m[k] q.w (unhide HT k hk') (unhide HN _ (List.getElem_mem hk')) (((unhide H1).2.2 _ (List.getElem_mem hk')).keep (bTr (unhide hbel) q.h)) (((unhide H2).2.2 _ (List.getElem_mem hk2)).keep (bTr (unhide hbel) q.h)))
      clear r1 r2
      generalize l[k] = A at Q p0 p1 p2 p3 p4 p5 p6
      generalize m[k] = A' at Q q0 q1 q2 q3 q4 q5 q6
      have ne : Nonempty (Kept wr) := ⟨⟨wr, Below.refl _ _⟩⟩
      have x0 := kept_cell z1 p0
      have x1 := kept_cell z1 p1
      have x2 := kept_cell z1 p2
      have x3 := kept_cell z1 p3
      have x4 := kept_cell z1 p4
      have x5 := kept_cell z1 p5
      have x6 := kept_cell z1 p6
      have y0 := kept_cell z2 q0
      have y1 := kept_cell z2 q1
      have y2 := kept_cell z2 q2
      have y3 := kept_cell z2 q3
      have y4 := kept_cell z2 q4
      have y5 := kept_cell z2 q5
      have y6 := kept_cell z2 q6
      have i0 : (0 : Int) ≤ (k : Int) := by omega
      have i1 : (k : Int) < (len1 : Int) := by omega
      go_wp2_with fail
      refine wp_region_kept (by kernel_rfl) (by kernel_rfl) ?_
      repeat (first
        | go_big_quiet_step ((go_at_call 32; exact kept_call (unhide Q _)))
        | quiet_step ((go_at_call 32; exact kept_call (unhide Q _))))
      refine wpQuiet_nil ?_
      rintro _ ⟨q, rfl⟩
      clear ne x0 x1 x2 x3 x4 x5 x6 y0 y1 y2 y3 y4 y5 y6
      obtain ⟨w3, hb3⟩ := q
      have HB3 := hide (bTr (unhide hbel) hb3)
      go_wp2_with fail
      exact ⟨⟨k + 1, by omega, by go_num, HB3⟩, by simp [Go.RowKit.intOf]; omega⟩
    · go_wp2_with fail
      go_ret
      exact ⟨rfl, unhide hbel⟩

theorem listcThing {α : Type} {l : List α} (h : l.length = 7) : ∃ a0 a1 a2 a3 a4 a5 a6, l = [a0, a1, a2, a3, a4, a5, a6] := by
  match l, h with
  | [a0, a1, a2, a3, a4, a5, a6], _ => exact ⟨a0, a1, a2, a3, a4, a5, a6, rfl⟩
theorem listfThing {α : Type} {l : List α} (h : l.length = 4) : ∃ a0 a1 a2 a3, l = [a0, a1, a2, a3] := by
  match l, h with
  | [a0, a1, a2, a3], _ => exact ⟨a0, a1, a2, a3, rfl⟩
section
variable {H : Type} {enc : TypeId × Value → H} {w : World} {base : Nat} {sp : Nat → Bool} {held : Bool}
set_option maxRecDepth 100000 in
theorem read_Thing {n : Nat} {cs : List Value} {x : DataW H × List MemPlace} (h : DataW.trod enc Tryz.prog w base sp held n 51 cs = some x) : ∃ e : ThingE, cs = [.int .i64 e.t.f0.x, .int .i64 e.t.f0.n, .string e.t.f0.t, .string e.t.f0.y, .slice e.h1.a e.h1.len e.h1.cap, .slice e.h2.a e.h2.len e.h2.cap, .slice e.h3.a e.h3.len e.h3.cap] ∧ ThingN e.t ∧ ThingM w 0 e := by
  obtain ⟨xs, m, rfl, _, hlen, hx, hf⟩ := DataW.trod_struct Tryz.underlying51 h
  have hc : Tryz.prog.cellsOf 51 = 7 := by kernel_rfl
  have ky0 : Tryz.prog.cellsOf 24 = 4 := by kernel_rfl
  have ky1 : Tryz.prog.cellsOf 47 = 1 := by kernel_rfl
  have ky2 : Tryz.prog.cellsOf 48 = 1 := by kernel_rfl
  have ky3 : Tryz.prog.cellsOf 49 = 1 := by kernel_rfl
  obtain ⟨c0, c1, c2, c3, c4, c5, c6, rfl⟩ := listcThing (hlen.trans hc)
  obtain ⟨x0, x1, x2, x3, rfl⟩ := listfThing hx
  have h0 : DataW.trod enc Tryz.prog w base sp held m 24 [c0, c1, c2, c3] = some x0 := by have := hf 0 _ rfl; simpa [ky0, ky1, ky2, ky3] using this
  obtain ⟨y0, e0, ok0⟩ := read_atom h0
  simp at e0
  obtain ⟨rfl, rfl, rfl, rfl⟩ := e0
  have h1 : DataW.trod enc Tryz.prog w base sp held m 47 [c4] = some x1 := by have := hf 1 _ rfl; simpa [ky0, ky1, ky2, ky3] using this
  have g1 : ∃ a l c, c4 = .slice a l c := by
    rcases Go.Deep.open_slice Tryz.underlying47 h1 with ⟨hcs, _⟩ | ⟨a', len', cap', _, _, _, _, hcs, _⟩
    · simp at hcs; exact ⟨_, _, _, hcs⟩
    · simp at hcs; exact ⟨_, _, _, hcs⟩
  obtain ⟨a1, b1, d1, rfl⟩ := g1
  obtain ⟨y1, s1, ok1, ml1⟩ := readsA h1
  have h2 : DataW.trod enc Tryz.prog w base sp held m 48 [c5] = some x2 := by have := hf 2 _ rfl; simpa [ky0, ky1, ky2, ky3] using this
  have g2 : ∃ a l c, c5 = .slice a l c := by
    rcases Go.Deep.open_slice Tryz.underlying48 h2 with ⟨hcs, _⟩ | ⟨a', len', cap', _, _, _, _, hcs, _⟩
    · simp at hcs; exact ⟨_, _, _, hcs⟩
    · simp at hcs; exact ⟨_, _, _, hcs⟩
  obtain ⟨a2, b2, d2, rfl⟩ := g2
  obtain ⟨y2, s2, ok2, ml2⟩ := readsS h2
  have h3 : DataW.trod enc Tryz.prog w base sp held m 49 [c6] = some x3 := by have := hf 3 _ rfl; simpa [ky0, ky1, ky2, ky3] using this
  have g3 : ∃ a l c, c6 = .slice a l c := by
    rcases Go.Deep.open_slice Tryz.underlying49 h3 with ⟨hcs, _⟩ | ⟨a', len', cap', _, _, _, _, hcs, _⟩
    · simp at hcs; exact ⟨_, _, _, hcs⟩
    · simp at hcs; exact ⟨_, _, _, hcs⟩
  obtain ⟨a3, b3, d3, rfl⟩ := g3
  obtain ⟨y3, s3, ok3, ml3⟩ := readsValue h3
  exact ⟨⟨⟨y0, y1, y2, y3⟩, ⟨a1, b1, d1⟩, ⟨a2, b2, d2⟩, ⟨a3, b3, d3⟩⟩, rfl, ⟨ok0, ok1, ml1, ok2, ml2, ok3, ml3, trivial⟩, ⟨s1, s2, s3, trivial⟩⟩
set_option maxRecDepth 100000 in
theorem came_Thing {r : Reach} {b0 : Nat} {v0 : Value} {d : DataW H} {q : List MemPlace} (hv : Value.okWide Tryz.prog w r b0 51 v0) (h : DataW.Trod enc Tryz.prog w base sp held 51 v0 d q) : ∃ e : ThingE, v0 = .agg #[.int .i64 e.t.f0.x, .int .i64 e.t.f0.n, .string e.t.f0.t, .string e.t.f0.y, .slice e.h1.a e.h1.len e.h1.cap, .slice e.h2.a e.h2.len e.h2.cap, .slice e.h3.a e.h3.len e.h3.cap] ∧ ThingN e.t ∧ ThingM w 0 e := by
  obtain ⟨cs, rfl, _⟩ := okWide_struct Tryz.underlying51 hv
  obtain ⟨fuel, hf0⟩ := h
  obtain ⟨e, h1, h2, h3⟩ := read_Thing hf0
  refine ⟨e, ?_, h2, h3⟩
  obtain ⟨l⟩ := cs
  simp only [Value.cells] at h1
  rw [h1]
set_option maxRecDepth 100000 in
theorem readsThing {n len cap : Nat} {a : Option Addr} {x : DataW H × List MemPlace} (h : DataW.trod enc Tryz.prog w base sp held n 22 [.slice a len cap] = some x) :
    ∃ l : List ThingT, SqThing w 0 ⟨a, len, cap⟩ l ∧ (∀ q ∈ l, ThingN q) ∧ l.length ≤ maxLen := by
  have hc : Tryz.prog.cellsOf 51 = 7 := by kernel_rfl
  rcases Go.Deep.open_slice Tryz.underlying22 h with ⟨hcs, _⟩ | ⟨a', len', cap', m, n', D, Pl, hcs, _, hl, hm, hmm, _, hel⟩
  · simp at hcs
    obtain ⟨rfl, rfl, rfl⟩ := hcs
    exact ⟨[], ⟨[], rfl, rfl, .inl rfl, by simp⟩, by simp, Nat.zero_le _⟩
  · simp at hcs
    obtain ⟨rfl, rfl, rfl⟩ := hcs
    have hlm : len ≤ m := by rw [hmm]; split <;> omega
    by_cases h0 : len = 0
    · subst h0; exact ⟨[], ⟨[], rfl, rfl, .inl rfl, by simp⟩, by simp, Nat.zero_le _⟩
    have hspot : a'.spot = none := by
      obtain ⟨cs', h1, h2⟩ := hel 0 (by omega)
      rw [hc] at h1
      obtain ⟨A, rfl, _⟩ := read_Thing h2
      have e0 := (World.cells?_some h1).2.2 0 (by omega)
      simp [Addr.add] at e0
      exact World.cell?_spot e0
    obtain ⟨b, off, spot⟩ := a'
    simp only at hspot
    subst hspot
    have hA : ∀ i, i < len → ∃ A : ThingE, ThingN A.t ∧ ThingM w 0 A ∧ (w.cell? ⟨b, off + i * 7, none⟩ = some (.int .i64 A.t.f0.x) ∧ w.cell? ⟨b, off + i * 7 + 1, none⟩ = some (.int .i64 A.t.f0.n) ∧ w.cell? ⟨b, off + i * 7 + 2, none⟩ = some (.string A.t.f0.t) ∧ w.cell? ⟨b, off + i * 7 + 3, none⟩ = some (.string A.t.f0.y) ∧ w.cell? ⟨b, off + i * 7 + 4, none⟩ = some (.slice A.h1.a A.h1.len A.h1.cap) ∧ w.cell? ⟨b, off + i * 7 + 5, none⟩ = some (.slice A.h2.a A.h2.len A.h2.cap) ∧ w.cell? ⟨b, off + i * 7 + 6, none⟩ = some (.slice A.h3.a A.h3.len A.h3.cap)) ∧ b < w.heap.size := by
      intro i hi
      obtain ⟨cs', h1, h2⟩ := hel i (by omega)
      rw [hc, addr_add] at h1
      obtain ⟨A, rfl, hok, hM⟩ := read_Thing h2
      have h3 := (World.cells?_some h1).2.2
      have e0 := h3 0 (by omega)
      have e1 := h3 1 (by omega)
      have e2 := h3 2 (by omega)
      have e3 := h3 3 (by omega)
      have e4 := h3 4 (by omega)
      have e5 := h3 5 (by omega)
      have e6 := h3 6 (by omega)
      rw [addr_add] at e0 e1 e2 e3 e4 e5 e6
      exact ⟨A, hok, hM, ⟨e0, e1, e2, e3, e4, e5, e6⟩, World.block_lt_of_cell? w ⟨b, off + i * 7 + 0, none⟩ e0⟩
    obtain ⟨f, hf⟩ := @Go.Deep.choose_lt ThingE ⟨⟨⟨⟨0, 0, ⟨#[]⟩, ⟨#[]⟩⟩, [], [], []⟩, ⟨none, 0, 0⟩, ⟨none, 0, 0⟩, ⟨none, 0, 0⟩⟩⟩ len (fun i A => ThingN A.t ∧ ThingM w 0 A ∧ (w.cell? ⟨b, off + i * 7, none⟩ = some (.int .i64 A.t.f0.x) ∧ w.cell? ⟨b, off + i * 7 + 1, none⟩ = some (.int .i64 A.t.f0.n) ∧ w.cell? ⟨b, off + i * 7 + 2, none⟩ = some (.string A.t.f0.t) ∧ w.cell? ⟨b, off + i * 7 + 3, none⟩ = some (.string A.t.f0.y) ∧ w.cell? ⟨b, off + i * 7 + 4, none⟩ = some (.slice A.h1.a A.h1.len A.h1.cap) ∧ w.cell? ⟨b, off + i * 7 + 5, none⟩ = some (.slice A.h2.a A.h2.len A.h2.cap) ∧ w.cell? ⟨b, off + i * 7 + 6, none⟩ = some (.slice A.h3.a A.h3.len A.h3.cap)) ∧ b < w.heap.size) hA
    refine ⟨((List.range len).map f).map (·.t), ⟨(List.range len).map f, rfl, by simp, .inr ⟨b, off, rfl, Lo.zero _ _, (hf 0 (by omega)).2.2.2, fun i hi => ?_, fun i hi => ?_, fun i hi => ?_, fun i hi => ?_, fun i hi => ?_, fun i hi => ?_, fun i hi => ?_⟩, ?_⟩, ?_, by simp; omega⟩
    · simp at hi
      have := (hf i hi).2.2.1.1
      simpa using this
    · simp at hi
      have := (hf i hi).2.2.1.2.1
      simpa using this
    · simp at hi
      have := (hf i hi).2.2.1.2.2.1
      simpa using this
    · simp at hi
      have := (hf i hi).2.2.1.2.2.2.1
      simpa using this
    · simp at hi
      have := (hf i hi).2.2.1.2.2.2.2.1
      simpa using this
    · simp at hi
      have := (hf i hi).2.2.1.2.2.2.2.2.1
      simpa using this
    · simp at hi
      have := (hf i hi).2.2.1.2.2.2.2.2.2
      simpa using this
    · intro q hq
      simp at hq
      obtain ⟨i, hi, rfl⟩ := hq
      exact (hf i hi).2.1
    · intro q hq
      simp at hq
      obtain ⟨i, hi, rfl⟩ := hq
      exact (hf i hi).1
set_option maxRecDepth 100000 in
/-- A slice that came in. -/
theorem cames_Thing {r : Reach} {b0 : Nat} {v0 : Value} {d : DataW H} {q : List MemPlace} (hv : Value.okWide Tryz.prog w r b0 22 v0) (h : DataW.Trod enc Tryz.prog w base sp held 22 v0 d q) :
    ∃ (h : Hd) (xs : List ThingT), v0 = .slice h.a h.len h.cap ∧ SqThing w 0 h xs ∧ (∀ q ∈ xs, ThingN q) ∧ xs.length ≤ maxLen := by
  obtain ⟨a, len, cap, rfl⟩ := okWide_slice Tryz.underlying22 hv
  obtain ⟨fuel, hf0⟩ := h
  obtain ⟨l, h1, h2, h3⟩ := readsThing hf0
  exact ⟨⟨a, len, cap⟩, l, rfl, h1, h2, h3⟩
end
end Go.Proofs.YtpfekkhnjaopdaaGreat.V
