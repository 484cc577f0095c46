/- impl.Request in memory, by what it holds: sized, copied, held against itself, read. -/
import Derived.Test.YtkfbecelfkbkkaaZVa
namespace Go.Proofs.Ytkfbecelfkbkkaa.V
set_option linter.unusedSimpArgs false
open Go.ChangeShapes Go.WideShapes Go.RowKit

structure RequestT where
  f0 : AtomT
  f1 : AtomT
  f2 : AtomT
  f3 : List ByteArray
  f4 : List ValT
structure RequestE where
  t : RequestT
  h3 : Hd
  h4 : Hd
structure RequestN (x : RequestT) : Prop where
  o0 : x.f0.Ok
  o1 : x.f1.Ok
  o2 : x.f2.Ok
  o3 : ∀ q ∈ x.f3, ByteArray.size q ≤ maxLen
  l3 : x.f3.length ≤ maxLen
  o4 : ∀ q ∈ x.f4, ValueN q
  l4 : x.f4.length ≤ maxLen
  tt : True
structure RequestSm (x : RequestT) : Prop where
  l3 : x.f3.length ≤ 1048576
  l4 : x.f4.length ≤ 1048576
  o4 : ∀ q ∈ x.f4, ValueSm q
  tt : True
structure RequestM (w : World) (lo : Nat) (e : RequestE) : Prop where
  m3 : SqS w lo e.h3 e.t.f3
  m4 : SqValue w lo e.h4 e.t.f4
  tt : True
theorem RequestM.fr {w w1 : World} {lo : Nat} {e : RequestE} (h : RequestM w lo e) (hf : Fr lo w w1) : RequestM w1 lo e := ⟨h.m3.fr hf, h.m4.fr hf, h.tt⟩
theorem RequestM.lo {w : World} {lo lo' : Nat} {e : RequestE} (h : RequestM w lo e) (hl : lo' ≤ lo) : RequestM w lo' e := ⟨h.m3.lo hl, h.m4.lo hl, h.tt⟩
theorem RequestM.keep {w w1 : World} {lo : Nat} {e : RequestE} (h : RequestM w lo e) (hb : Below w.heap.size w w1) : RequestM w1 lo e := h.fr (Fr.below hb lo)
set_option maxRecDepth 20000 in
set_option maxHeartbeats 2000000 in
theorem szRequest_n (e : RequestE) (left : Int) (w : World) (h0 : 0 ≤ left) (h1 : left ≤ 1048576) (ho : RequestN e.t) (hm : RequestM w 0 e) :
    Calls Try.prog 11 #[.agg #[.int .i64 e.t.f0.x, .int .i64 e.t.f0.n, .string e.t.f0.t, .string e.t.f0.y, .int .i64 e.t.f1.x, .int .i64 e.t.f1.n, .string e.t.f1.t, .string e.t.f1.y, .int .i64 e.t.f2.x, .int .i64 e.t.f2.n, .string e.t.f2.t, .string e.t.f2.y, .slice e.h3.a e.h3.len e.h3.cap, .slice e.h4.a e.h4.len e.h4.cap], .int .i64 left] w fun r w' => (∃ m : Int, -1 ≤ m ∧ m ≤ left ∧ (0 ≤ m → RequestSm e.t) ∧ r = .returned (.int .i64 m)) ∧ Below w.heap.size w w' := by
  have q0 := hide (fun l w h0 h1 => szAtom_any e.t.f0.x e.t.f0.n l e.t.f0.t e.t.f0.y w h0 h1 ho.o0.t9 ho.o0.y9)
  have q1 := hide (fun l w h0 h1 => szAtom_any e.t.f1.x e.t.f1.n l e.t.f1.t e.t.f1.y w h0 h1 ho.o1.t9 ho.o1.y9)
  have q2 := hide (fun l w h0 h1 => szAtom_any e.t.f2.x e.t.f2.n l e.t.f2.t e.t.f2.y w h0 h1 ho.o2.t9 ho.o2.y9)
  have q3 := hide (fun l w h0 h1 hs => szStringS_n e.h3 e.t.f3 l w h0 h1 ho.o3 ho.l3 hs)
  have M3 := hide hm.m3
  have q4 := hide (fun l w h0 h1 hs => szValueS_n e.h4 e.t.f4 l w h0 h1 ho.o4 ho.l4 hs)
  have M4 := hide hm.m4
  have R := hide (RowIs.new w #[.int .i64 e.t.f0.x, .int .i64 e.t.f0.n, .string e.t.f0.t, .string e.t.f0.y, .int .i64 e.t.f1.x, .int .i64 e.t.f1.n, .string e.t.f1.t, .string e.t.f1.y, .int .i64 e.t.f2.x, .int .i64 e.t.f2.n, .string e.t.f2.t, .string e.t.f2.y, .slice e.h3.a e.h3.len e.h3.cap, .slice e.h4.a e.h4.len e.h4.cap] 34)
  have B := hide (bAl (Below.refl w.heap.size w) (.cells #[.int .i64 e.t.f0.x, .int .i64 e.t.f0.n, .string e.t.f0.t, .string e.t.f0.y, .int .i64 e.t.f1.x, .int .i64 e.t.f1.n, .string e.t.f1.t, .string e.t.f1.y, .int .i64 e.t.f2.x, .int .i64 e.t.f2.n, .string e.t.f2.t, .string e.t.f2.y, .slice e.h3.a e.h3.len e.h3.cap, .slice e.h4.a e.h4.len e.h4.cap] 34))
  clear ho hm
  go_enter Try.func11, Try.ntmps11
  go_wp2_with fail
  refine (unhide q0 _ _ (by omega) (by omega)).mono ?_
  rintro r w1 ⟨⟨m0, x0, y0, rfl⟩, hb1⟩
  replace R := hide ((unhide R).keep hb1)
  replace B := hide (bTr (unhide B) hb1)
  clear hb1 
  by_cases e0 : m0 < 0
  · go_wp2_with fail
    go_ret
    exact ⟨⟨-1, by omega, by omega, by omega, rfl⟩, unhide B⟩
  have c4 := (unhide R).at (o := 4) (v := .int .i64 e.t.f1.x) rfl
  have c5 := (unhide R).at (o := 5) (v := .int .i64 e.t.f1.n) rfl
  have c6 := (unhide R).at (o := 6) (v := .string e.t.f1.t) rfl
  have c7 := (unhide R).at (o := 7) (v := .string e.t.f1.y) rfl
  go_wp2_with fail
  refine (unhide q1 _ _ (by omega) (by omega)).mono ?_
  rintro r w2 ⟨⟨m1, x1, y1, rfl⟩, hb1⟩
  replace R := hide ((unhide R).keep hb1)
  replace B := hide (bTr (unhide B) hb1)
  clear hb1 c4 c5 c6 c7
  by_cases e1 : m1 < 0
  · go_wp2_with fail
    go_ret
    exact ⟨⟨-1, by omega, by omega, by omega, rfl⟩, unhide B⟩
  have c8 := (unhide R).at (o := 8) (v := .int .i64 e.t.f2.x) rfl
  have c9 := (unhide R).at (o := 9) (v := .int .i64 e.t.f2.n) rfl
  have c10 := (unhide R).at (o := 10) (v := .string e.t.f2.t) rfl
  have c11 := (unhide R).at (o := 11) (v := .string e.t.f2.y) rfl
  go_wp2_with fail
  refine (unhide q2 _ _ (by omega) (by omega)).mono ?_
  rintro r w3 ⟨⟨m2, x2, y2, rfl⟩, hb1⟩
  replace R := hide ((unhide R).keep hb1)
  replace B := hide (bTr (unhide B) hb1)
  clear hb1 c8 c9 c10 c11
  by_cases e2 : m2 < 0
  · go_wp2_with fail
    go_ret
    exact ⟨⟨-1, by omega, by omega, by omega, rfl⟩, unhide B⟩
  have c12 := (unhide R).at (o := 12) (v := .slice e.h3.a e.h3.len e.h3.cap) rfl
  go_wp2_with fail
  refine (unhide q3 _ _ (by omega) (by omega) ((unhide M3).keep (unhide B))).mono ?_
  rintro r w4 ⟨⟨m3, x3, y3, z3, rfl⟩, hb1⟩
  have Z3 := hide z3
  clear z3
  replace R := hide ((unhide R).keep hb1)
  replace B := hide (bTr (unhide B) hb1)
  clear hb1 c12
  by_cases e3 : m3 < 0
  · go_wp2_with fail
    go_ret
    exact ⟨⟨-1, by omega, by omega, by omega, rfl⟩, unhide B⟩
  have c13 := (unhide R).at (o := 13) (v := .slice e.h4.a e.h4.len e.h4.cap) rfl
  go_wp2_with fail
  refine (unhide q4 _ _ (by omega) (by omega) ((unhide M4).keep (unhide B))).mono ?_
  rintro r w5 ⟨⟨m4, x4, y4, z4, rfl⟩, hb1⟩
  have Z4 := hide z4
  clear z4
  replace R := hide ((unhide R).keep hb1)
  replace B := hide (bTr (unhide B) hb1)
  clear hb1 c13
  by_cases e4 : m4 < 0
  · go_wp2_with fail
    go_ret
    exact ⟨⟨-1, by omega, by omega, by omega, rfl⟩, unhide B⟩
  go_wp2_with fail
  go_ret
  exact ⟨⟨_, by omega, by omega, fun _ => ⟨unhide Z3 (by omega), (unhide Z4 (by omega)).1, (unhide Z4 (by omega)).2, trivial⟩, rfl⟩, unhide B⟩

set_option maxRecDepth 40000 in
set_option maxHeartbeats 8000000 in
theorem toRequest_n (e : RequestE) (w : World) (hs : RequestSm e.t) (hm : RequestM w 0 e) :
    Calls Try.prog 13 #[.agg #[.int .i64 e.t.f0.x, .int .i64 e.t.f0.n, .string e.t.f0.t, .string e.t.f0.y, .int .i64 e.t.f1.x, .int .i64 e.t.f1.n, .string e.t.f1.t, .string e.t.f1.y, .int .i64 e.t.f2.x, .int .i64 e.t.f2.n, .string e.t.f2.t, .string e.t.f2.y, .slice e.h3.a e.h3.len e.h3.cap, .slice e.h4.a e.h4.len e.h4.cap]] w fun r w' => (∃ e' : RequestE, e'.t = e.t ∧ r = .returned (.agg #[.int .i64 e'.t.f0.x, .int .i64 e'.t.f0.n, .string e'.t.f0.t, .string e'.t.f0.y, .int .i64 e'.t.f1.x, .int .i64 e'.t.f1.n, .string e'.t.f1.t, .string e'.t.f1.y, .int .i64 e'.t.f2.x, .int .i64 e'.t.f2.n, .string e'.t.f2.t, .string e'.t.f2.y, .slice e'.h3.a e'.h3.len e'.h3.cap, .slice e'.h4.a e'.h4.len e'.h4.cap]) ∧ RequestM w' w.heap.size e') ∧ Below w.heap.size w w' := by
  have q3 := hide (fun w hm => toStringS_n e.h3 e.t.f3 w hs.l3 hm)
  have M3 := hide hm.m3
  have q4 := hide (fun w hm => toValueS_n e.h4 e.t.f4 w ⟨hs.l4, hs.o4⟩ hm)
  have M4 := hide hm.m4
  clear hs hm
  obtain ⟨W0, hW0⟩ : ∃ W, W = ((w.alloc (.cells #[.int .i64 e.t.f0.x, .int .i64 e.t.f0.n, .string e.t.f0.t, .string e.t.f0.y, .int .i64 e.t.f1.x, .int .i64 e.t.f1.n, .string e.t.f1.t, .string e.t.f1.y, .int .i64 e.t.f2.x, .int .i64 e.t.f2.n, .string e.t.f2.t, .string e.t.f2.y, .slice e.h3.a e.h3.len e.h3.cap, .slice e.h4.a e.h4.len e.h4.cap] 34)).alloc (.cells #[.int .i64 0, .int .i64 0, .string ⟨#[]⟩, .string ⟨#[]⟩, .int .i64 0, .int .i64 0, .string ⟨#[]⟩, .string ⟨#[]⟩, .int .i64 0, .int .i64 0, .string ⟨#[]⟩, .string ⟨#[]⟩, .slice none 0 0, .slice none 0 0] 40)).alloc (.cells #[.int .i64 0, .int .i64 0, .string ⟨#[]⟩, .string ⟨#[]⟩, .int .i64 0, .int .i64 0, .string ⟨#[]⟩, .string ⟨#[]⟩, .int .i64 0, .int .i64 0, .string ⟨#[]⟩, .string ⟨#[]⟩, .slice none 0 0, .slice none 0 0] 40) := ⟨_, rfl⟩
  have z0 : W0.heap.size = w.heap.size + 1 + 1 + 1 := by rw [hW0]; simp
  have b0 : Below w.heap.size w W0 := by rw [hW0]; exact bAl (bAl (bAl (Below.refl _ _) _) _) _
  have A0 : RowIs W0 w.heap.size #[.int .i64 e.t.f0.x, .int .i64 e.t.f0.n, .string e.t.f0.t, .string e.t.f0.y, .int .i64 e.t.f1.x, .int .i64 e.t.f1.n, .string e.t.f1.t, .string e.t.f1.y, .int .i64 e.t.f2.x, .int .i64 e.t.f2.n, .string e.t.f2.t, .string e.t.f2.y, .slice e.h3.a e.h3.len e.h3.cap, .slice e.h4.a e.h4.len e.h4.cap] 34 := by rw [hW0]; exact ((RowIs.new w _ _).keep (bAl (Below.refl _ _) _)).keep (bAl (Below.refl _ _) _)
  have Z0 : RowIs W0 (w.heap.size + 1) #[.int .i64 0, .int .i64 0, .string ⟨#[]⟩, .string ⟨#[]⟩, .int .i64 0, .int .i64 0, .string ⟨#[]⟩, .string ⟨#[]⟩, .int .i64 0, .int .i64 0, .string ⟨#[]⟩, .string ⟨#[]⟩, .slice none 0 0, .slice none 0 0] 40 := by
    rw [hW0]
    have := (RowIs.new (w.alloc (.cells #[.int .i64 e.t.f0.x, .int .i64 e.t.f0.n, .string e.t.f0.t, .string e.t.f0.y, .int .i64 e.t.f1.x, .int .i64 e.t.f1.n, .string e.t.f1.t, .string e.t.f1.y, .int .i64 e.t.f2.x, .int .i64 e.t.f2.n, .string e.t.f2.t, .string e.t.f2.y, .slice e.h3.a e.h3.len e.h3.cap, .slice e.h4.a e.h4.len e.h4.cap] 34)) #[.int .i64 0, .int .i64 0, .string ⟨#[]⟩, .string ⟨#[]⟩, .int .i64 0, .int .i64 0, .string ⟨#[]⟩, .string ⟨#[]⟩, .int .i64 0, .int .i64 0, .string ⟨#[]⟩, .string ⟨#[]⟩, .slice none 0 0, .slice none 0 0] 40).keep (bAl (Below.refl _ _) (.cells #[.int .i64 0, .int .i64 0, .string ⟨#[]⟩, .string ⟨#[]⟩, .int .i64 0, .int .i64 0, .string ⟨#[]⟩, .string ⟨#[]⟩, .int .i64 0, .int .i64 0, .string ⟨#[]⟩, .string ⟨#[]⟩, .slice none 0 0, .slice none 0 0] 40))
    simpa using this
  have O0 : RowIs W0 (w.heap.size + 1 + 1) #[.int .i64 0, .int .i64 0, .string ⟨#[]⟩, .string ⟨#[]⟩, .int .i64 0, .int .i64 0, .string ⟨#[]⟩, .string ⟨#[]⟩, .int .i64 0, .int .i64 0, .string ⟨#[]⟩, .string ⟨#[]⟩, .slice none 0 0, .slice none 0 0] 40 := by
    rw [hW0]
    have := RowIs.new ((w.alloc (.cells #[.int .i64 e.t.f0.x, .int .i64 e.t.f0.n, .string e.t.f0.t, .string e.t.f0.y, .int .i64 e.t.f1.x, .int .i64 e.t.f1.n, .string e.t.f1.t, .string e.t.f1.y, .int .i64 e.t.f2.x, .int .i64 e.t.f2.n, .string e.t.f2.t, .string e.t.f2.y, .slice e.h3.a e.h3.len e.h3.cap, .slice e.h4.a e.h4.len e.h4.cap] 34)).alloc (.cells #[.int .i64 0, .int .i64 0, .string ⟨#[]⟩, .string ⟨#[]⟩, .int .i64 0, .int .i64 0, .string ⟨#[]⟩, .string ⟨#[]⟩, .int .i64 0, .int .i64 0, .string ⟨#[]⟩, .string ⟨#[]⟩, .slice none 0 0, .slice none 0 0] 40)) #[.int .i64 0, .int .i64 0, .string ⟨#[]⟩, .string ⟨#[]⟩, .int .i64 0, .int .i64 0, .string ⟨#[]⟩, .string ⟨#[]⟩, .int .i64 0, .int .i64 0, .string ⟨#[]⟩, .string ⟨#[]⟩, .slice none 0 0, .slice none 0 0] 40
    simpa using this
  have HW := hide hW0
  have hne1 : w.heap.size ≠ w.heap.size + 1 + 1 := by omega
  have hne2 : w.heap.size + 1 ≠ w.heap.size + 1 + 1 := by omega
  clear hW0
  go_enter Try.func13, Try.ntmps13
  go_wp2_with fail
  rw [← unhide HW]
  clear HW
  have Oh := hide O0
  clear O0
  have Zh := hide Z0
  clear Z0
  have Ah := hide A0
  clear A0
  have Bh := hide b0
  have Gh : Hid (w.heap.size + 3 ≤ W0.heap.size) := hide (by omega)
  clear b0 z0
  refine (toAtom_any e.t.f0.x e.t.f0.n e.t.f0.t e.t.f0.y _).mono ?_
  rintro r v0 ⟨rfl, hb1⟩
  have Gn : Hid (w.heap.size + 3 ≤ v0.heap.size) := hide (Nat.le_trans (unhide Gh) hb1.size)
  clear Gh
  have Gh := Gn
  clear Gn
  replace Oh := hide ((unhide Oh).keep hb1)
  replace Zh := hide ((unhide Zh).keep hb1)
  replace Ah := hide ((unhide Ah).keep hb1)
  replace Bh := hide (bTr (unhide Bh) hb1)
  clear hb1
  have k_0 := (unhide Oh).at (o := 0) (v := .int .i64 0) rfl
  have g_0 := (unhide Oh).froz 0
  have k_1 := (unhide Oh).at (o := 1) (v := .int .i64 0) rfl
  have g_1 := (unhide Oh).froz 1
  have k_2 := (unhide Oh).at (o := 2) (v := .string ⟨#[]⟩) rfl
  have g_2 := (unhide Oh).froz 2
  have k_3 := (unhide Oh).at (o := 3) (v := .string ⟨#[]⟩) rfl
  have g_3 := (unhide Oh).froz 3
  have a_4 := (unhide Ah).at (o := 4) (v := .int .i64 e.t.f1.x) rfl
  have a_5 := (unhide Ah).at (o := 5) (v := .int .i64 e.t.f1.n) rfl
  have a_6 := (unhide Ah).at (o := 6) (v := .string e.t.f1.t) rfl
  have a_7 := (unhide Ah).at (o := 7) (v := .string e.t.f1.y) rfl
  obtain ⟨W1, hW⟩ : ∃ W, W = ((((v0.setCell ⟨w.heap.size + 1 + 1, 0, none⟩ (.int .i64 e.t.f0.x)).setCell ⟨w.heap.size + 1 + 1, 1, none⟩ (.int .i64 e.t.f0.n)).setCell ⟨w.heap.size + 1 + 1, 2, none⟩ (.string e.t.f0.t)).setCell ⟨w.heap.size + 1 + 1, 3, none⟩ (.string e.t.f0.y)) := ⟨_, rfl⟩
  have On : Hid (RowIs W1 (w.heap.size + 1 + 1) #[.int .i64 e.t.f0.x, .int .i64 e.t.f0.n, .string e.t.f0.t, .string e.t.f0.y, .int .i64 0, .int .i64 0, .string ⟨#[]⟩, .string ⟨#[]⟩, .int .i64 0, .int .i64 0, .string ⟨#[]⟩, .string ⟨#[]⟩, .slice none 0 0, .slice none 0 0] 40) := hide (by have h := (((((unhide Oh).set 0 (.int .i64 e.t.f0.x)).set 1 (.int .i64 e.t.f0.n)).set 2 (.string e.t.f0.t)).set 3 (.string e.t.f0.y)); simp only [List.setIfInBounds_toArray, List.set_cons_zero, List.set_cons_succ] at h; rw [hW]; exact h)
  have Zn : Hid (RowIs W1 (w.heap.size + 1) #[.int .i64 0, .int .i64 0, .string ⟨#[]⟩, .string ⟨#[]⟩, .int .i64 0, .int .i64 0, .string ⟨#[]⟩, .string ⟨#[]⟩, .int .i64 0, .int .i64 0, .string ⟨#[]⟩, .string ⟨#[]⟩, .slice none 0 0, .slice none 0 0] 40) := hide (by rw [hW]; exact (((((unhide Zh).setOther (o' := 0) (.int .i64 e.t.f0.x) hne2).setOther (o' := 1) (.int .i64 e.t.f0.n) hne2).setOther (o' := 2) (.string e.t.f0.t) hne2).setOther (o' := 3) (.string e.t.f0.y) hne2))
  have An : Hid (RowIs W1 w.heap.size #[.int .i64 e.t.f0.x, .int .i64 e.t.f0.n, .string e.t.f0.t, .string e.t.f0.y, .int .i64 e.t.f1.x, .int .i64 e.t.f1.n, .string e.t.f1.t, .string e.t.f1.y, .int .i64 e.t.f2.x, .int .i64 e.t.f2.n, .string e.t.f2.t, .string e.t.f2.y, .slice e.h3.a e.h3.len e.h3.cap, .slice e.h4.a e.h4.len e.h4.cap] 34) := hide (by rw [hW]; exact (((((unhide Ah).setOther (o' := 0) (.int .i64 e.t.f0.x) hne1).setOther (o' := 1) (.int .i64 e.t.f0.n) hne1).setOther (o' := 2) (.string e.t.f0.t) hne1).setOther (o' := 3) (.string e.t.f0.y) hne1))
  have Bn : Hid (Below w.heap.size w W1) := hide (by rw [hW]; exact (bSt (bSt (bSt (bSt (unhide Bh) (b := w.heap.size + 1 + 1) (by omega) 0 (.int .i64 e.t.f0.x)) (b := w.heap.size + 1 + 1) (by omega) 1 (.int .i64 e.t.f0.n)) (b := w.heap.size + 1 + 1) (by omega) 2 (.string e.t.f0.t)) (b := w.heap.size + 1 + 1) (by omega) 3 (.string e.t.f0.y)))
  have Gn : Hid (w.heap.size + 3 ≤ W1.heap.size) := hide (by rw [hW]; simp only [size_sc]; exact unhide Gh)
  have HW := hide hW.symm
  clear hW Oh Zh Ah Bh Gh
  have Oh := On
  clear On
  have Zh := Zn
  clear Zn
  have Ah := An
  clear An
  have Bh := Bn
  clear Bn
  have Gh := Gn
  clear Gn
  go_wp2_with fail
  rw [unhide HW]
  clear HW k_0 g_0 k_1 g_1 k_2 g_2 k_3 g_3 a_4 a_5 a_6 a_7
  refine (toAtom_any e.t.f1.x e.t.f1.n e.t.f1.t e.t.f1.y _).mono ?_
  rintro r v1 ⟨rfl, hb1⟩
  have Gn : Hid (w.heap.size + 3 ≤ v1.heap.size) := hide (Nat.le_trans (unhide Gh) hb1.size)
  clear Gh
  have Gh := Gn
  clear Gn
  replace Oh := hide ((unhide Oh).keep hb1)
  replace Zh := hide ((unhide Zh).keep hb1)
  replace Ah := hide ((unhide Ah).keep hb1)
  replace Bh := hide (bTr (unhide Bh) hb1)
  clear hb1
  have k_4 := (unhide Oh).at (o := 4) (v := .int .i64 0) rfl
  have g_4 := (unhide Oh).froz 4
  have k_5 := (unhide Oh).at (o := 5) (v := .int .i64 0) rfl
  have g_5 := (unhide Oh).froz 5
  have k_6 := (unhide Oh).at (o := 6) (v := .string ⟨#[]⟩) rfl
  have g_6 := (unhide Oh).froz 6
  have k_7 := (unhide Oh).at (o := 7) (v := .string ⟨#[]⟩) rfl
  have g_7 := (unhide Oh).froz 7
  have a_8 := (unhide Ah).at (o := 8) (v := .int .i64 e.t.f2.x) rfl
  have a_9 := (unhide Ah).at (o := 9) (v := .int .i64 e.t.f2.n) rfl
  have a_10 := (unhide Ah).at (o := 10) (v := .string e.t.f2.t) rfl
  have a_11 := (unhide Ah).at (o := 11) (v := .string e.t.f2.y) rfl
  obtain ⟨W2, hW⟩ : ∃ W, W = ((((v1.setCell ⟨w.heap.size + 1 + 1, 4, none⟩ (.int .i64 e.t.f1.x)).setCell ⟨w.heap.size + 1 + 1, 5, none⟩ (.int .i64 e.t.f1.n)).setCell ⟨w.heap.size + 1 + 1, 6, none⟩ (.string e.t.f1.t)).setCell ⟨w.heap.size + 1 + 1, 7, none⟩ (.string e.t.f1.y)) := ⟨_, rfl⟩
  have On : Hid (RowIs W2 (w.heap.size + 1 + 1) #[.int .i64 e.t.f0.x, .int .i64 e.t.f0.n, .string e.t.f0.t, .string e.t.f0.y, .int .i64 e.t.f1.x, .int .i64 e.t.f1.n, .string e.t.f1.t, .string e.t.f1.y, .int .i64 0, .int .i64 0, .string ⟨#[]⟩, .string ⟨#[]⟩, .slice none 0 0, .slice none 0 0] 40) := hide (by have h := (((((unhide Oh).set 4 (.int .i64 e.t.f1.x)).set 5 (.int .i64 e.t.f1.n)).set 6 (.string e.t.f1.t)).set 7 (.string e.t.f1.y)); simp only [List.setIfInBounds_toArray, List.set_cons_zero, List.set_cons_succ] at h; rw [hW]; exact h)
  have Zn : Hid (RowIs W2 (w.heap.size + 1) #[.int .i64 0, .int .i64 0, .string ⟨#[]⟩, .string ⟨#[]⟩, .int .i64 0, .int .i64 0, .string ⟨#[]⟩, .string ⟨#[]⟩, .int .i64 0, .int .i64 0, .string ⟨#[]⟩, .string ⟨#[]⟩, .slice none 0 0, .slice none 0 0] 40) := hide (by rw [hW]; exact (((((unhide Zh).setOther (o' := 4) (.int .i64 e.t.f1.x) hne2).setOther (o' := 5) (.int .i64 e.t.f1.n) hne2).setOther (o' := 6) (.string e.t.f1.t) hne2).setOther (o' := 7) (.string e.t.f1.y) hne2))
  have An : Hid (RowIs W2 w.heap.size #[.int .i64 e.t.f0.x, .int .i64 e.t.f0.n, .string e.t.f0.t, .string e.t.f0.y, .int .i64 e.t.f1.x, .int .i64 e.t.f1.n, .string e.t.f1.t, .string e.t.f1.y, .int .i64 e.t.f2.x, .int .i64 e.t.f2.n, .string e.t.f2.t, .string e.t.f2.y, .slice e.h3.a e.h3.len e.h3.cap, .slice e.h4.a e.h4.len e.h4.cap] 34) := hide (by rw [hW]; exact (((((unhide Ah).setOther (o' := 4) (.int .i64 e.t.f1.x) hne1).setOther (o' := 5) (.int .i64 e.t.f1.n) hne1).setOther (o' := 6) (.string e.t.f1.t) hne1).setOther (o' := 7) (.string e.t.f1.y) hne1))
  have Bn : Hid (Below w.heap.size w W2) := hide (by rw [hW]; exact (bSt (bSt (bSt (bSt (unhide Bh) (b := w.heap.size + 1 + 1) (by omega) 4 (.int .i64 e.t.f1.x)) (b := w.heap.size + 1 + 1) (by omega) 5 (.int .i64 e.t.f1.n)) (b := w.heap.size + 1 + 1) (by omega) 6 (.string e.t.f1.t)) (b := w.heap.size + 1 + 1) (by omega) 7 (.string e.t.f1.y)))
  have Gn : Hid (w.heap.size + 3 ≤ W2.heap.size) := hide (by rw [hW]; simp only [size_sc]; exact unhide Gh)
  have HW := hide hW.symm
  clear hW Oh Zh Ah Bh Gh
  have Oh := On
  clear On
  have Zh := Zn
  clear Zn
  have Ah := An
  clear An
  have Bh := Bn
  clear Bn
  have Gh := Gn
  clear Gn
  go_wp2_with fail
  rw [unhide HW]
  clear HW k_4 g_4 k_5 g_5 k_6 g_6 k_7 g_7 a_8 a_9 a_10 a_11
  refine (toAtom_any e.t.f2.x e.t.f2.n e.t.f2.t e.t.f2.y _).mono ?_
  rintro r v2 ⟨rfl, hb1⟩
  have Gn : Hid (w.heap.size + 3 ≤ v2.heap.size) := hide (Nat.le_trans (unhide Gh) hb1.size)
  clear Gh
  have Gh := Gn
  clear Gn
  replace Oh := hide ((unhide Oh).keep hb1)
  replace Zh := hide ((unhide Zh).keep hb1)
  replace Ah := hide ((unhide Ah).keep hb1)
  replace Bh := hide (bTr (unhide Bh) hb1)
  clear hb1
  have k_8 := (unhide Oh).at (o := 8) (v := .int .i64 0) rfl
  have g_8 := (unhide Oh).froz 8
  have k_9 := (unhide Oh).at (o := 9) (v := .int .i64 0) rfl
  have g_9 := (unhide Oh).froz 9
  have k_10 := (unhide Oh).at (o := 10) (v := .string ⟨#[]⟩) rfl
  have g_10 := (unhide Oh).froz 10
  have k_11 := (unhide Oh).at (o := 11) (v := .string ⟨#[]⟩) rfl
  have g_11 := (unhide Oh).froz 11
  have a_12 := (unhide Ah).at (o := 12) (v := .slice e.h3.a e.h3.len e.h3.cap) rfl
  obtain ⟨W3, hW⟩ : ∃ W, W = ((((v2.setCell ⟨w.heap.size + 1 + 1, 8, none⟩ (.int .i64 e.t.f2.x)).setCell ⟨w.heap.size + 1 + 1, 9, none⟩ (.int .i64 e.t.f2.n)).setCell ⟨w.heap.size + 1 + 1, 10, none⟩ (.string e.t.f2.t)).setCell ⟨w.heap.size + 1 + 1, 11, none⟩ (.string e.t.f2.y)) := ⟨_, rfl⟩
  have On : Hid (RowIs W3 (w.heap.size + 1 + 1) #[.int .i64 e.t.f0.x, .int .i64 e.t.f0.n, .string e.t.f0.t, .string e.t.f0.y, .int .i64 e.t.f1.x, .int .i64 e.t.f1.n, .string e.t.f1.t, .string e.t.f1.y, .int .i64 e.t.f2.x, .int .i64 e.t.f2.n, .string e.t.f2.t, .string e.t.f2.y, .slice none 0 0, .slice none 0 0] 40) := hide (by have h := (((((unhide Oh).set 8 (.int .i64 e.t.f2.x)).set 9 (.int .i64 e.t.f2.n)).set 10 (.string e.t.f2.t)).set 11 (.string e.t.f2.y)); simp only [List.setIfInBounds_toArray, List.set_cons_zero, List.set_cons_succ] at h; rw [hW]; exact h)
  have Zn : Hid (RowIs W3 (w.heap.size + 1) #[.int .i64 0, .int .i64 0, .string ⟨#[]⟩, .string ⟨#[]⟩, .int .i64 0, .int .i64 0, .string ⟨#[]⟩, .string ⟨#[]⟩, .int .i64 0, .int .i64 0, .string ⟨#[]⟩, .string ⟨#[]⟩, .slice none 0 0, .slice none 0 0] 40) := hide (by rw [hW]; exact (((((unhide Zh).setOther (o' := 8) (.int .i64 e.t.f2.x) hne2).setOther (o' := 9) (.int .i64 e.t.f2.n) hne2).setOther (o' := 10) (.string e.t.f2.t) hne2).setOther (o' := 11) (.string e.t.f2.y) hne2))
  have An : Hid (RowIs W3 w.heap.size #[.int .i64 e.t.f0.x, .int .i64 e.t.f0.n, .string e.t.f0.t, .string e.t.f0.y, .int .i64 e.t.f1.x, .int .i64 e.t.f1.n, .string e.t.f1.t, .string e.t.f1.y, .int .i64 e.t.f2.x, .int .i64 e.t.f2.n, .string e.t.f2.t, .string e.t.f2.y, .slice e.h3.a e.h3.len e.h3.cap, .slice e.h4.a e.h4.len e.h4.cap] 34) := hide (by rw [hW]; exact (((((unhide Ah).setOther (o' := 8) (.int .i64 e.t.f2.x) hne1).setOther (o' := 9) (.int .i64 e.t.f2.n) hne1).setOther (o' := 10) (.string e.t.f2.t) hne1).setOther (o' := 11) (.string e.t.f2.y) hne1))
  have Bn : Hid (Below w.heap.size w W3) := hide (by rw [hW]; exact (bSt (bSt (bSt (bSt (unhide Bh) (b := w.heap.size + 1 + 1) (by omega) 8 (.int .i64 e.t.f2.x)) (b := w.heap.size + 1 + 1) (by omega) 9 (.int .i64 e.t.f2.n)) (b := w.heap.size + 1 + 1) (by omega) 10 (.string e.t.f2.t)) (b := w.heap.size + 1 + 1) (by omega) 11 (.string e.t.f2.y)))
  have Gn : Hid (w.heap.size + 3 ≤ W3.heap.size) := hide (by rw [hW]; simp only [size_sc]; exact unhide Gh)
  have HW := hide hW.symm
  clear hW Oh Zh Ah Bh Gh
  have Oh := On
  clear On
  have Zh := Zn
  clear Zn
  have Ah := An
  clear An
  have Bh := Bn
  clear Bn
  have Gh := Gn
  clear Gn
  go_wp2_with fail
  rw [unhide HW]
  clear HW k_8 g_8 k_9 g_9 k_10 g_10 k_11 g_11 a_12
  refine (unhide q3 _ ((unhide M3).keep (unhide Bh))).mono ?_
  rintro r v3 ⟨⟨k3, rfl, hk3⟩, hb1⟩
  have K3 := hide (hk3.lo (unhide Gh))
  clear hk3
  have Gn : Hid (w.heap.size + 3 ≤ v3.heap.size) := hide (Nat.le_trans (unhide Gh) hb1.size)
  clear Gh
  have Gh := Gn
  clear Gn
  replace Oh := hide ((unhide Oh).keep hb1)
  replace Zh := hide ((unhide Zh).keep hb1)
  replace Ah := hide ((unhide Ah).keep hb1)
  replace Bh := hide (bTr (unhide Bh) hb1)
  clear hb1
  have k_12 := (unhide Oh).at (o := 12) (v := .slice none 0 0) rfl
  have g_12 := (unhide Oh).froz 12
  have a_13 := (unhide Ah).at (o := 13) (v := .slice e.h4.a e.h4.len e.h4.cap) rfl
  obtain ⟨W4, hW⟩ : ∃ W, W = (v3.setCell ⟨w.heap.size + 1 + 1, 12, none⟩ (.slice k3.a k3.len k3.cap)) := ⟨_, rfl⟩
  have On : Hid (RowIs W4 (w.heap.size + 1 + 1) #[.int .i64 e.t.f0.x, .int .i64 e.t.f0.n, .string e.t.f0.t, .string e.t.f0.y, .int .i64 e.t.f1.x, .int .i64 e.t.f1.n, .string e.t.f1.t, .string e.t.f1.y, .int .i64 e.t.f2.x, .int .i64 e.t.f2.n, .string e.t.f2.t, .string e.t.f2.y, .slice k3.a k3.len k3.cap, .slice none 0 0] 40) := hide (by have h := ((unhide Oh).set 12 (.slice k3.a k3.len k3.cap)); simp only [List.setIfInBounds_toArray, List.set_cons_zero, List.set_cons_succ] at h; rw [hW]; exact h)
  have Zn : Hid (RowIs W4 (w.heap.size + 1) #[.int .i64 0, .int .i64 0, .string ⟨#[]⟩, .string ⟨#[]⟩, .int .i64 0, .int .i64 0, .string ⟨#[]⟩, .string ⟨#[]⟩, .int .i64 0, .int .i64 0, .string ⟨#[]⟩, .string ⟨#[]⟩, .slice none 0 0, .slice none 0 0] 40) := hide (by rw [hW]; exact ((unhide Zh).setOther (o' := 12) (.slice k3.a k3.len k3.cap) hne2))
  have An : Hid (RowIs W4 w.heap.size #[.int .i64 e.t.f0.x, .int .i64 e.t.f0.n, .string e.t.f0.t, .string e.t.f0.y, .int .i64 e.t.f1.x, .int .i64 e.t.f1.n, .string e.t.f1.t, .string e.t.f1.y, .int .i64 e.t.f2.x, .int .i64 e.t.f2.n, .string e.t.f2.t, .string e.t.f2.y, .slice e.h3.a e.h3.len e.h3.cap, .slice e.h4.a e.h4.len e.h4.cap] 34) := hide (by rw [hW]; exact ((unhide Ah).setOther (o' := 12) (.slice k3.a k3.len k3.cap) hne1))
  have Bn : Hid (Below w.heap.size w W4) := hide (by rw [hW]; exact (bSt (unhide Bh) (b := w.heap.size + 1 + 1) (by omega) 12 (.slice k3.a k3.len k3.cap)))
  have Gn : Hid (w.heap.size + 3 ≤ W4.heap.size) := hide (by rw [hW]; simp only [size_sc]; exact unhide Gh)
  replace K3 := hide (show SqS W4 (w.heap.size + 3) k3 e.t.f3 by rw [hW]; exact (unhide K3).fr ((Fr.below (Below.refl _ v3) _).sets (.slice k3.a k3.len k3.cap) (by omega)))
  have HW := hide hW.symm
  clear hW Oh Zh Ah Bh Gh
  have Oh := On
  clear On
  have Zh := Zn
  clear Zn
  have Ah := An
  clear An
  have Bh := Bn
  clear Bn
  have Gh := Gn
  clear Gn
  go_wp2_with fail
  rw [unhide HW]
  clear HW k_12 g_12 a_13
  refine (unhide q4 _ ((unhide M4).keep (unhide Bh))).mono ?_
  rintro r v4 ⟨⟨k4, rfl, hk4⟩, hb1⟩
  have K4 := hide (hk4.lo (unhide Gh))
  clear hk4
  have Gn : Hid (w.heap.size + 3 ≤ v4.heap.size) := hide (Nat.le_trans (unhide Gh) hb1.size)
  clear Gh
  have Gh := Gn
  clear Gn
  replace Oh := hide ((unhide Oh).keep hb1)
  replace Zh := hide ((unhide Zh).keep hb1)
  replace Ah := hide ((unhide Ah).keep hb1)
  replace Bh := hide (bTr (unhide Bh) hb1)
  replace K3 := hide ((unhide K3).keep hb1)
  clear hb1
  have k_13 := (unhide Oh).at (o := 13) (v := .slice none 0 0) rfl
  have g_13 := (unhide Oh).froz 13
  obtain ⟨W5, hW⟩ : ∃ W, W = (v4.setCell ⟨w.heap.size + 1 + 1, 13, none⟩ (.slice k4.a k4.len k4.cap)) := ⟨_, rfl⟩
  have On : Hid (RowIs W5 (w.heap.size + 1 + 1) #[.int .i64 e.t.f0.x, .int .i64 e.t.f0.n, .string e.t.f0.t, .string e.t.f0.y, .int .i64 e.t.f1.x, .int .i64 e.t.f1.n, .string e.t.f1.t, .string e.t.f1.y, .int .i64 e.t.f2.x, .int .i64 e.t.f2.n, .string e.t.f2.t, .string e.t.f2.y, .slice k3.a k3.len k3.cap, .slice k4.a k4.len k4.cap] 40) := hide (by have h := ((unhide Oh).set 13 (.slice k4.a k4.len k4.cap)); simp only [List.setIfInBounds_toArray, List.set_cons_zero, List.set_cons_succ] at h; rw [hW]; exact h)
  have Zn : Hid (RowIs W5 (w.heap.size + 1) #[.int .i64 0, .int .i64 0, .string ⟨#[]⟩, .string ⟨#[]⟩, .int .i64 0, .int .i64 0, .string ⟨#[]⟩, .string ⟨#[]⟩, .int .i64 0, .int .i64 0, .string ⟨#[]⟩, .string ⟨#[]⟩, .slice none 0 0, .slice none 0 0] 40) := hide (by rw [hW]; exact ((unhide Zh).setOther (o' := 13) (.slice k4.a k4.len k4.cap) hne2))
  have An : Hid (RowIs W5 w.heap.size #[.int .i64 e.t.f0.x, .int .i64 e.t.f0.n, .string e.t.f0.t, .string e.t.f0.y, .int .i64 e.t.f1.x, .int .i64 e.t.f1.n, .string e.t.f1.t, .string e.t.f1.y, .int .i64 e.t.f2.x, .int .i64 e.t.f2.n, .string e.t.f2.t, .string e.t.f2.y, .slice e.h3.a e.h3.len e.h3.cap, .slice e.h4.a e.h4.len e.h4.cap] 34) := hide (by rw [hW]; exact ((unhide Ah).setOther (o' := 13) (.slice k4.a k4.len k4.cap) hne1))
  have Bn : Hid (Below w.heap.size w W5) := hide (by rw [hW]; exact (bSt (unhide Bh) (b := w.heap.size + 1 + 1) (by omega) 13 (.slice k4.a k4.len k4.cap)))
  have Gn : Hid (w.heap.size + 3 ≤ W5.heap.size) := hide (by rw [hW]; simp only [size_sc]; exact unhide Gh)
  replace K3 := hide (show SqS W5 (w.heap.size + 3) k3 e.t.f3 by rw [hW]; exact (unhide K3).fr ((Fr.below (Below.refl _ v4) _).sets (.slice k4.a k4.len k4.cap) (by omega)))
  replace K4 := hide (show SqValue W5 (w.heap.size + 3) k4 e.t.f4 by rw [hW]; exact (unhide K4).fr ((Fr.below (Below.refl _ v4) _).sets (.slice k4.a k4.len k4.cap) (by omega)))
  have HW := hide hW.symm
  clear hW Oh Zh Ah Bh Gh
  have Oh := On
  clear On
  have Zh := Zn
  clear Zn
  have Ah := An
  clear An
  have Bh := Bn
  clear Bn
  have Gh := Gn
  clear Gn
  go_upto_region 7 with fail
  rw [unhide HW]
  clear HW k_13 g_13
  go_step
  refine wpList_load_row rfl 40 _ rfl (w.heap.size + 1 + 1) rfl 40 _ (0, 0) _ (unhide Oh) Try.underlying40 rfl (by kernel_rfl) ?_
  refine wpList_store_row rfl 40 _ _ rfl (w.heap.size + 1) #[.int .i64 e.t.f0.x, .int .i64 e.t.f0.n, .string e.t.f0.t, .string e.t.f0.y, .int .i64 e.t.f1.x, .int .i64 e.t.f1.n, .string e.t.f1.t, .string e.t.f1.y, .int .i64 e.t.f2.x, .int .i64 e.t.f2.n, .string e.t.f2.t, .string e.t.f2.y, .slice k3.a k3.len k3.cap, .slice k4.a k4.len k4.cap] rfl rfl 40 _ (unhide Zh) (by kernel_rfl) rfl (by simp [Value.oneCell']) ?_
  have Z6 := hide (setRow_heap W5 (w.heap.size + 1) _ #[.int .i64 e.t.f0.x, .int .i64 e.t.f0.n, .string e.t.f0.t, .string e.t.f0.y, .int .i64 e.t.f1.x, .int .i64 e.t.f1.n, .string e.t.f1.t, .string e.t.f1.y, .int .i64 e.t.f2.x, .int .i64 e.t.f2.n, .string e.t.f2.t, .string e.t.f2.y, .slice k3.a k3.len k3.cap, .slice k4.a k4.len k4.cap] _ _ (unhide Zh))
  go_wp2_with fail
  refine bodyPost_ret (v := .agg #[.int .i64 e.t.f0.x, .int .i64 e.t.f0.n, .string e.t.f0.t, .string e.t.f0.y, .int .i64 e.t.f1.x, .int .i64 e.t.f1.n, .string e.t.f1.t, .string e.t.f1.y, .int .i64 e.t.f2.x, .int .i64 e.t.f2.n, .string e.t.f2.t, .string e.t.f2.y, .slice k3.a k3.len k3.cap, .slice k4.a k4.len k4.cap]) (results_cell_row rfl _ _ (w.heap.size + 1) 40 _ (0, 0) _ rfl (unhide Z6) Try.underlying40 rfl (by kernel_rfl)) rfl ⟨⟨⟨e.t, k3, k4⟩, rfl, rfl, ⟨((unhide K3).fr ((Fr.below (Below.refl _ _) _).row _ (by omega))).lo (by omega), ((unhide K4).fr ((Fr.below (Below.refl _ _) _).row _ (by omega))).lo (by omega), trivial⟩⟩, bRow (unhide Bh) (by omega) _⟩

set_option maxRecDepth 20000 in
set_option maxHeartbeats 2000000 in
theorem eqRequest_n (e1 e2 : RequestE) (w : World) (ht : e2.t = e1.t) (hn : RequestN e1.t) (m1 : RequestM w 0 e1) (m2 : RequestM w 0 e2) :
    Calls Try.prog 15 #[.agg #[.int .i64 e1.t.f0.x, .int .i64 e1.t.f0.n, .string e1.t.f0.t, .string e1.t.f0.y, .int .i64 e1.t.f1.x, .int .i64 e1.t.f1.n, .string e1.t.f1.t, .string e1.t.f1.y, .int .i64 e1.t.f2.x, .int .i64 e1.t.f2.n, .string e1.t.f2.t, .string e1.t.f2.y, .slice e1.h3.a e1.h3.len e1.h3.cap, .slice e1.h4.a e1.h4.len e1.h4.cap], .agg #[.int .i64 e2.t.f0.x, .int .i64 e2.t.f0.n, .string e2.t.f0.t, .string e2.t.f0.y, .int .i64 e2.t.f1.x, .int .i64 e2.t.f1.n, .string e2.t.f1.t, .string e2.t.f1.y, .int .i64 e2.t.f2.x, .int .i64 e2.t.f2.n, .string e2.t.f2.t, .string e2.t.f2.y, .slice e2.h3.a e2.h3.len e2.h3.cap, .slice e2.h4.a e2.h4.len e2.h4.cap]] w fun r w' => r = .returned (.bool true) ∧ Below w.heap.size w w' := by
  obtain ⟨t, h3, h4⟩ := e1
  obtain ⟨t', g3, g4⟩ := e2
  simp only at ht
  subst ht
  have q3 := hide (fun w u1 u2 => eqStringS_n h3 g3 t'.f3 w hn.l3 u1 u2)
  have M3 := hide m1.m3
  have P3 := hide m2.m3
  have q4 := hide (fun w u1 u2 => eqValueS_n h4 g4 t'.f4 w hn.l4 hn.o4 u1 u2)
  have M4 := hide m1.m4
  have P4 := hide m2.m4
  have X := hide ((RowIs.new w #[.int .i64 t'.f0.x, .int .i64 t'.f0.n, .string t'.f0.t, .string t'.f0.y, .int .i64 t'.f1.x, .int .i64 t'.f1.n, .string t'.f1.t, .string t'.f1.y, .int .i64 t'.f2.x, .int .i64 t'.f2.n, .string t'.f2.t, .string t'.f2.y, .slice h3.a h3.len h3.cap, .slice h4.a h4.len h4.cap] 40).keep (bAl (Below.refl _ _) (.cells #[.int .i64 t'.f0.x, .int .i64 t'.f0.n, .string t'.f0.t, .string t'.f0.y, .int .i64 t'.f1.x, .int .i64 t'.f1.n, .string t'.f1.t, .string t'.f1.y, .int .i64 t'.f2.x, .int .i64 t'.f2.n, .string t'.f2.t, .string t'.f2.y, .slice g3.a g3.len g3.cap, .slice g4.a g4.len g4.cap] 40)))
  have Y : Hid (RowIs ((w.alloc (.cells #[.int .i64 t'.f0.x, .int .i64 t'.f0.n, .string t'.f0.t, .string t'.f0.y, .int .i64 t'.f1.x, .int .i64 t'.f1.n, .string t'.f1.t, .string t'.f1.y, .int .i64 t'.f2.x, .int .i64 t'.f2.n, .string t'.f2.t, .string t'.f2.y, .slice h3.a h3.len h3.cap, .slice h4.a h4.len h4.cap] 40)).alloc (.cells #[.int .i64 t'.f0.x, .int .i64 t'.f0.n, .string t'.f0.t, .string t'.f0.y, .int .i64 t'.f1.x, .int .i64 t'.f1.n, .string t'.f1.t, .string t'.f1.y, .int .i64 t'.f2.x, .int .i64 t'.f2.n, .string t'.f2.t, .string t'.f2.y, .slice g3.a g3.len g3.cap, .slice g4.a g4.len g4.cap] 40)) (w.heap.size + 1) #[.int .i64 t'.f0.x, .int .i64 t'.f0.n, .string t'.f0.t, .string t'.f0.y, .int .i64 t'.f1.x, .int .i64 t'.f1.n, .string t'.f1.t, .string t'.f1.y, .int .i64 t'.f2.x, .int .i64 t'.f2.n, .string t'.f2.t, .string t'.f2.y, .slice g3.a g3.len g3.cap, .slice g4.a g4.len g4.cap] 40) := hide (by have := RowIs.new (w.alloc (.cells #[.int .i64 t'.f0.x, .int .i64 t'.f0.n, .string t'.f0.t, .string t'.f0.y, .int .i64 t'.f1.x, .int .i64 t'.f1.n, .string t'.f1.t, .string t'.f1.y, .int .i64 t'.f2.x, .int .i64 t'.f2.n, .string t'.f2.t, .string t'.f2.y, .slice h3.a h3.len h3.cap, .slice h4.a h4.len h4.cap] 40)) #[.int .i64 t'.f0.x, .int .i64 t'.f0.n, .string t'.f0.t, .string t'.f0.y, .int .i64 t'.f1.x, .int .i64 t'.f1.n, .string t'.f1.t, .string t'.f1.y, .int .i64 t'.f2.x, .int .i64 t'.f2.n, .string t'.f2.t, .string t'.f2.y, .slice g3.a g3.len g3.cap, .slice g4.a g4.len g4.cap] 40; simpa using this)
  have B := hide (bAl (bAl (Below.refl w.heap.size w) (.cells #[.int .i64 t'.f0.x, .int .i64 t'.f0.n, .string t'.f0.t, .string t'.f0.y, .int .i64 t'.f1.x, .int .i64 t'.f1.n, .string t'.f1.t, .string t'.f1.y, .int .i64 t'.f2.x, .int .i64 t'.f2.n, .string t'.f2.t, .string t'.f2.y, .slice h3.a h3.len h3.cap, .slice h4.a h4.len h4.cap] 40)) (.cells #[.int .i64 t'.f0.x, .int .i64 t'.f0.n, .string t'.f0.t, .string t'.f0.y, .int .i64 t'.f1.x, .int .i64 t'.f1.n, .string t'.f1.t, .string t'.f1.y, .int .i64 t'.f2.x, .int .i64 t'.f2.n, .string t'.f2.t, .string t'.f2.y, .slice g3.a g3.len g3.cap, .slice g4.a g4.len g4.cap] 40))
  clear m1 m2 hn
  go_enter Try.func15, Try.ntmps15
  go_wp2_with fail
  refine (eqAtom_same _ _ _ _ _).mono ?_
  rintro r w1 ⟨rfl, hb1⟩
  replace X := hide ((unhide X).keep hb1)
  replace Y := hide ((unhide Y).keep hb1)
  replace B := hide (bTr (unhide B) hb1)
  clear hb1 
  have c4 := (unhide X).at (o := 4) (v := .int .i64 t'.f1.x) rfl
  have d4 := (unhide Y).at (o := 4) (v := .int .i64 t'.f1.x) rfl
  have c5 := (unhide X).at (o := 5) (v := .int .i64 t'.f1.n) rfl
  have d5 := (unhide Y).at (o := 5) (v := .int .i64 t'.f1.n) rfl
  have c6 := (unhide X).at (o := 6) (v := .string t'.f1.t) rfl
  have d6 := (unhide Y).at (o := 6) (v := .string t'.f1.t) rfl
  have c7 := (unhide X).at (o := 7) (v := .string t'.f1.y) rfl
  have d7 := (unhide Y).at (o := 7) (v := .string t'.f1.y) rfl
  go_wp2_with fail
  refine (eqAtom_same _ _ _ _ _).mono ?_
  rintro r w2 ⟨rfl, hb1⟩
  replace X := hide ((unhide X).keep hb1)
  replace Y := hide ((unhide Y).keep hb1)
  replace B := hide (bTr (unhide B) hb1)
  clear hb1 c4 d4 c5 d5 c6 d6 c7 d7
  have c8 := (unhide X).at (o := 8) (v := .int .i64 t'.f2.x) rfl
  have d8 := (unhide Y).at (o := 8) (v := .int .i64 t'.f2.x) rfl
  have c9 := (unhide X).at (o := 9) (v := .int .i64 t'.f2.n) rfl
  have d9 := (unhide Y).at (o := 9) (v := .int .i64 t'.f2.n) rfl
  have c10 := (unhide X).at (o := 10) (v := .string t'.f2.t) rfl
  have d10 := (unhide Y).at (o := 10) (v := .string t'.f2.t) rfl
  have c11 := (unhide X).at (o := 11) (v := .string t'.f2.y) rfl
  have d11 := (unhide Y).at (o := 11) (v := .string t'.f2.y) rfl
  go_wp2_with fail
  refine (eqAtom_same _ _ _ _ _).mono ?_
  rintro r w3 ⟨rfl, hb1⟩
  replace X := hide ((unhide X).keep hb1)
  replace Y := hide ((unhide Y).keep hb1)
  replace B := hide (bTr (unhide B) hb1)
  clear hb1 c8 d8 c9 d9 c10 d10 c11 d11
  have c12 := (unhide X).at (o := 12) (v := .slice h3.a h3.len h3.cap) rfl
  have d12 := (unhide Y).at (o := 12) (v := .slice g3.a g3.len g3.cap) rfl
  go_wp2_with fail
  refine (unhide q3 _ ((unhide M3).keep (unhide B)) ((unhide P3).keep (unhide B))).mono ?_
  rintro r w4 ⟨rfl, hb1⟩
  replace X := hide ((unhide X).keep hb1)
  replace Y := hide ((unhide Y).keep hb1)
  replace B := hide (bTr (unhide B) hb1)
  clear hb1 c12 d12
  have c13 := (unhide X).at (o := 13) (v := .slice h4.a h4.len h4.cap) rfl
  have d13 := (unhide Y).at (o := 13) (v := .slice g4.a g4.len g4.cap) rfl
  go_wp2_with fail
  refine (unhide q4 _ ((unhide M4).keep (unhide B)) ((unhide P4).keep (unhide B))).mono ?_
  rintro r w5 ⟨rfl, hb1⟩
  replace X := hide ((unhide X).keep hb1)
  replace Y := hide ((unhide Y).keep hb1)
  replace B := hide (bTr (unhide B) hb1)
  clear hb1 c13 d13
  go_wp2_with fail
  go_ret
  exact ⟨rfl, unhide B⟩

theorem listcRequest {α : Type} {l : List α} (h : l.length = 14) : ∃ a0 a1 a2 a3 a4 a5 a6 a7 a8 a9 a10 a11 a12 a13, l = [a0, a1, a2, a3, a4, a5, a6, a7, a8, a9, a10, a11, a12, a13] := by
  match l, h with
  | [a0, a1, a2, a3, a4, a5, a6, a7, a8, a9, a10, a11, a12, a13], _ => exact ⟨a0, a1, a2, a3, a4, a5, a6, a7, a8, a9, a10, a11, a12, a13, rfl⟩
theorem listfRequest {α : Type} {l : List α} (h : l.length = 5) : ∃ a0 a1 a2 a3 a4, l = [a0, a1, a2, a3, a4] := by
  match l, h with
  | [a0, a1, a2, a3, a4], _ => exact ⟨a0, a1, a2, a3, a4, rfl⟩
section
variable {H : Type} {enc : TypeId × Value → H} {w : World} {base : Nat} {sp : Nat → Bool} {held : Bool}
set_option maxRecDepth 100000 in
theorem read_Request {n : Nat} {cs : List Value} {x : DataW H × List MemPlace} (h : DataW.trod enc Try.prog w base sp held n 34 cs = some x) : ∃ e : RequestE, cs = [.int .i64 e.t.f0.x, .int .i64 e.t.f0.n, .string e.t.f0.t, .string e.t.f0.y, .int .i64 e.t.f1.x, .int .i64 e.t.f1.n, .string e.t.f1.t, .string e.t.f1.y, .int .i64 e.t.f2.x, .int .i64 e.t.f2.n, .string e.t.f2.t, .string e.t.f2.y, .slice e.h3.a e.h3.len e.h3.cap, .slice e.h4.a e.h4.len e.h4.cap] ∧ RequestN e.t ∧ RequestM w 0 e := by
  obtain ⟨xs, m, rfl, _, hlen, hx, hf⟩ := DataW.trod_struct Try.underlying34 h
  have hc : Try.prog.cellsOf 34 = 14 := by kernel_rfl
  have ky0 : Try.prog.cellsOf 30 = 4 := by kernel_rfl
  have ky1 : Try.prog.cellsOf 31 = 1 := by kernel_rfl
  have ky2 : Try.prog.cellsOf 32 = 1 := by kernel_rfl
  obtain ⟨c0, c1, c2, c3, c4, c5, c6, c7, c8, c9, c10, c11, c12, c13, rfl⟩ := listcRequest (hlen.trans hc)
  obtain ⟨x0, x1, x2, x3, x4, rfl⟩ := listfRequest hx
  have h0 : DataW.trod enc Try.prog w base sp held m 30 [c0, c1, c2, c3] = some x0 := by have := hf 0 _ rfl; simpa [ky0, ky1, ky2] using this
  obtain ⟨y0, e0, ok0⟩ := read_atom h0
  simp at e0
  obtain ⟨rfl, rfl, rfl, rfl⟩ := e0
  have h1 : DataW.trod enc Try.prog w base sp held m 30 [c4, c5, c6, c7] = some x1 := by have := hf 1 _ rfl; simpa [ky0, ky1, ky2] using this
  obtain ⟨y1, e1, ok1⟩ := read_atom h1
  simp at e1
  obtain ⟨rfl, rfl, rfl, rfl⟩ := e1
  have h2 : DataW.trod enc Try.prog w base sp held m 30 [c8, c9, c10, c11] = some x2 := by have := hf 2 _ rfl; simpa [ky0, ky1, ky2] using this
  obtain ⟨y2, e2, ok2⟩ := read_atom h2
  simp at e2
  obtain ⟨rfl, rfl, rfl, rfl⟩ := e2
  have h3 : DataW.trod enc Try.prog w base sp held m 31 [c12] = some x3 := by have := hf 3 _ rfl; simpa [ky0, ky1, ky2] using this
  have g3 : ∃ a l c, c12 = .slice a l c := by
    rcases Go.Deep.open_slice Try.underlying31 h3 with ⟨hcs, _⟩ | ⟨a', len', cap', _, _, _, _, hcs, _⟩
    · simp at hcs; exact ⟨_, _, _, hcs⟩
    · simp at hcs; exact ⟨_, _, _, hcs⟩
  obtain ⟨a3, b3, d3, rfl⟩ := g3
  obtain ⟨y3, s3, ok3, ml3⟩ := readsS h3
  have h4 : DataW.trod enc Try.prog w base sp held m 32 [c13] = some x4 := by have := hf 4 _ rfl; simpa [ky0, ky1, ky2] using this
  have g4 : ∃ a l c, c13 = .slice a l c := by
    rcases Go.Deep.open_slice Try.underlying32 h4 with ⟨hcs, _⟩ | ⟨a', len', cap', _, _, _, _, hcs, _⟩
    · simp at hcs; exact ⟨_, _, _, hcs⟩
    · simp at hcs; exact ⟨_, _, _, hcs⟩
  obtain ⟨a4, b4, d4, rfl⟩ := g4
  obtain ⟨y4, s4, ok4, ml4⟩ := readsValue h4
  exact ⟨⟨⟨y0, y1, y2, y3, y4⟩, ⟨a3, b3, d3⟩, ⟨a4, b4, d4⟩⟩, rfl, ⟨ok0, ok1, ok2, ok3, ml3, ok4, ml4, trivial⟩, ⟨s3, s4, trivial⟩⟩
set_option maxRecDepth 100000 in
theorem came_Request {r : Reach} {b0 : Nat} {v0 : Value} {d : DataW H} {q : List MemPlace} (hv : Value.okWide Try.prog w r b0 34 v0) (h : DataW.Trod enc Try.prog w base sp held 34 v0 d q) : ∃ e : RequestE, v0 = .agg #[.int .i64 e.t.f0.x, .int .i64 e.t.f0.n, .string e.t.f0.t, .string e.t.f0.y, .int .i64 e.t.f1.x, .int .i64 e.t.f1.n, .string e.t.f1.t, .string e.t.f1.y, .int .i64 e.t.f2.x, .int .i64 e.t.f2.n, .string e.t.f2.t, .string e.t.f2.y, .slice e.h3.a e.h3.len e.h3.cap, .slice e.h4.a e.h4.len e.h4.cap] ∧ RequestN e.t ∧ RequestM w 0 e := by
  obtain ⟨cs, rfl, _⟩ := okWide_struct Try.underlying34 hv
  obtain ⟨fuel, hf0⟩ := h
  obtain ⟨e, h1, h2, h3⟩ := read_Request hf0
  refine ⟨e, ?_, h2, h3⟩
  obtain ⟨l⟩ := cs
  simp only [Value.cells] at h1
  rw [h1]
end
end Go.Proofs.Ytkfbecelfkbkkaa.V
