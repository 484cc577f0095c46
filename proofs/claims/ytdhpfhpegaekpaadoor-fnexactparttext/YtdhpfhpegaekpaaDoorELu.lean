/- Documents: spec.l20Take. -/
import Derived.Test.YtdhpfhpegaekpaaDoorELt
import Derived.Maps.AppendAt
namespace Go.Proofs.YtdhpfhpegaekpaaDoor.V
set_option linter.unusedSimpArgs false
set_option linter.unusedVariables false
open Go.RowKit Go.Maps

def TakeO (w' : World) (lo r : Nat) (l : List ElemE) (k : Nat) (e : Ending) : Prop :=
  (takeD l r k = none ∧ e = .returned (.tuple #[agg7 zX 0 (.slice none 0 0), .int .i64 (-1)])) ∨
  ∃ t k' s, takeD l r k = some (t, k') ∧ k' ≤ l.length ∧ e = .returned (.tuple #[agg7 t.n t.at s, .int .i64 (k' : Int)]) ∧ TrD r w' lo s t
theorem info_l20E : (Tryd.prog.info? 38).map (fun i => (i.zero, i.size, i.bytes)) = some (some (.agg #[.string ByteArray.empty, .string ByteArray.empty, .slice none 0 0, .slice none 0 0, .int .i64 0, .int .i64 0, .slice none 0 0]), 7, 120) := by kernel_rfl
theorem cellsD (w : World) (C : Array Value) (T : TypeId) (q : Nat) (hq : q = w.heap.size) : ∀ j u, C.toList[j]? = some u → (w.alloc (.cells C T)).cell? ((⟨q, 0, none⟩ : Addr).add j) = some u := by
  subst hq
  intro j u h
  have e : ((⟨w.heap.size, 0, none⟩ : Addr).add j) = ⟨w.heap.size, j, none⟩ := by unfold Addr.add; split <;> simp_all
  rw [e]
  have := RowIs.new w C T
  exact this.at (by rw [← Array.getElem?_toList]; exact h)
theorem take_okD {r : Nat} {l : List ElemE} {k n : Nat} (h : k < l.length) (h6 : (l[k]).t.f4 = (n : Int)) (hn : n ≤ 20) {pre : List DT} {k' : Nat} (ht : takeKD (takeD l r) n (k + 1) = some (pre, k')) : takeD l (r + 1) k = some (.node l[k] k pre, k') := by
  rw [takeD, dif_pos h, if_neg (by omega), show ((l[k]).t.f4).toNat = n by omega, ht]; rfl
theorem take_noneD {r : Nat} {l : List ElemE} {k n : Nat} (h : k < l.length) (h6 : (l[k]).t.f4 = (n : Int)) (hn : n ≤ 20) (ht : takeKD (takeD l r) n (k + 1) = none) : takeD l (r + 1) k = none := by
  rw [takeD, dif_pos h, if_neg (by omega), show ((l[k]).t.f4).toNat = n by omega, ht]; rfl

theorem own_setX {w : World} {base e size n b o : Nat} {v u : Value} {xs : List Value} (h : w.ownsRow base e size v n xs) (hne : ∀ g, v.ownBlock = some g → g ≠ b) : (w.setCell ⟨b, o, none⟩ u).ownsRow base e size v n xs := by
  refine ⟨h.1, h.2.imp_right ?_⟩
  rintro ⟨g, cap, cur, e1, h1, hh, r⟩
  exact ⟨g, cap, cur, e1, h1, (heap_setCell_other w ⟨b, o, none⟩ g u (hne g (by rw [e1]; rfl))).trans hh, r⟩
abbrev rowN (x : ElemE) (n k : Nat) (s : Value) : Array Value := #[.string x.t.f0, .string x.t.f1, .slice x.h2.a x.h2.len x.h2.cap, .slice x.h3.a x.h3.len x.h3.cap, .int .i64 (n : Int), .int .i64 (k : Int), s]
set_option maxRecDepth 20000 in
set_option maxHeartbeats 2000000 in
theorem l20Take_no (r : Nat) (a : Option Addr) (len cap : Nat) (l : List ElemE) (at_ : Nat) (deep : Int) (w : World) (hd : deep + r = 13) (hr : r ≤ 12) (hs : SqElemE w 0 ⟨a, len, cap⟩ l) (ha : at_ ≤ len)
    (hn : at_ = len ∨ r = 0 ∨ ∃ h : at_ < l.length, (l[at_]).t.f4 < 0 ∨ 20 < (l[at_]).t.f4) :
    Calls Tryd.prog 24 #[.slice a len cap, .int .i64 at_, .int .i64 deep] w fun e w' => e = .returned (.tuple #[agg7 zX 0 (.slice none 0 0), .int .i64 (-1)]) ∧ Below w.heap.size w w' := by
  by_cases he : at_ = len
  · have d1 : (len : Int) ≤ (at_ : Int) := by omega
    clear hs hn he
    go_enter Tryd.func24, Tryd.ntmps24
    go_wp2_with fail
    refine bodyPost_ret (v := .tuple #[agg7 zX 0 (.slice none 0 0), .int .i64 (-1)]) (by simp [results, Tryd.results24, go_sem]) rfl ⟨rfl, bAl (Below.refl _ _) _⟩
  have d1 : ¬ (len : Int) ≤ (at_ : Int) := by omega
  by_cases h0 : r = 0
  · have d2 : 12 < deep := by omega
    clear hs hn he
    go_enter Tryd.func24, Tryd.ntmps24
    go_wp2_with fail
    refine bodyPost_ret (v := .tuple #[agg7 zX 0 (.slice none 0 0), .int .i64 (-1)]) (by simp [results, Tryd.results24, go_sem]) rfl ⟨rfl, bAl (Below.refl _ _) _⟩
  have d2 : ¬ 12 < deep := by omega
  have hlt : at_ < len := by omega
  obtain ⟨h, hk⟩ := (hn.resolve_left he).resolve_left h0
  obtain ⟨b, off, ea, hrow⟩ := hs.at hlt
  simp only at ea
  subst ea
  have bz := bAl (Below.refl w.heap.size w) (.cells #[.string ⟨#[]⟩, .string ⟨#[]⟩, .slice none 0 0, .slice none 0 0, .int .i64 0, .int .i64 0, .slice none 0 0] 38)
  have c6 := cellB bz hrow.z (hrow.c4 at_ h)
  have hzb := Nat.lt_of_lt_of_le hrow.z bz.size
  clear bz
  clear hs hn he hrow
  generalize l[at_] = x at *
  generalize hx : x.t.f4 = N at *
  clear hx
  by_cases hk1 : N < 0
  · clear hk
    go_enter Tryd.func24, Tryd.ntmps24
    go_wp2_with fail
    refine bodyPost_ret (v := .tuple #[agg7 zX 0 (.slice none 0 0), .int .i64 (-1)]) (by simp [results, Tryd.results24, go_sem]) rfl ⟨rfl, bAl (Below.refl _ _) _⟩
  · replace hk := hk.resolve_left hk1
    go_enter Tryd.func24, Tryd.ntmps24
    go_wp2_with fail
    refine bodyPost_ret (v := .tuple #[agg7 zX 0 (.slice none 0 0), .int .i64 (-1)]) (by simp [results, Tryd.results24, go_sem]) rfl ⟨rfl, bAl (Below.refl _ _) _⟩
set_option maxRecDepth 20000 in
set_option maxHeartbeats 4000000 in
theorem l20Take_step (r : Nat) (IH : ∀ (a : Option Addr) (len cap : Nat) (l : List ElemE) (at_ : Nat) (deep : Int) (w : World), deep + r = 13 → r ≤ 12 → len ≤ 1000 → SqElemE w 0 ⟨a, len, cap⟩ l → at_ ≤ len →
    Calls Tryd.prog 24 #[.slice a len cap, .int .i64 at_, .int .i64 deep] w fun e w' => TakeO w' w.heap.size r l at_ e ∧ Below w.heap.size w w')
    (a : Option Addr) (len cap : Nat) (l : List ElemE) (at_ : Nat) (deep : Int) (w : World) (hd : deep + (r + 1 : Nat) = 13) (hr : r + 1 ≤ 12) (hl : len ≤ 1000) (hs : SqElemE w 0 ⟨a, len, cap⟩ l) (ha : at_ ≤ len) :
    Calls Tryd.prog 24 #[.slice a len cap, .int .i64 at_, .int .i64 deep] w fun e w' => TakeO w' w.heap.size (r + 1) l at_ e ∧ Below w.heap.size w w' := by
    by_cases hno : at_ = len ∨ r + 1 = 0 ∨ ∃ h : at_ < l.length, (l[at_]).t.f4 < 0 ∨ 20 < (l[at_]).t.f4
    · refine (l20Take_no (r + 1) a len cap l at_ deep w hd hr hs ha hno).mono ?_
      rintro e w' ⟨rfl, hb⟩
      refine ⟨.inl ⟨?_, rfl⟩, hb⟩
      rcases hno with h | h | ⟨h, hk⟩
      · rw [takeD, dif_neg (by have := hs.1; simp only at this; omega)]
      · omega
      · rw [takeD, dif_pos h, if_pos hk]
    · have ih := hide IH
      obtain ⟨i0, hi, hz⟩ := Option.map_eq_some_iff.1 info_l20E
      simp only [Prod.mk.injEq] at hz
      obtain ⟨hz0, hz1, hz2⟩ := hz
      have hlen : len = l.length := hs.1
      have hlt : at_ < len := by have : ¬ at_ = len := fun h => hno (.inl h); omega
      have hlt' : at_ < l.length := by omega
      have h6a : ¬ ((l[at_]).t.f4 < 0 ∨ 20 < (l[at_]).t.f4) := fun h => hno (.inr (.inr ⟨hlt', h⟩))
      obtain ⟨n, hn6⟩ : ∃ n : Nat, (l[at_]).t.f4 = (n : Int) := ⟨(l[at_]).t.f4.toNat, by omega⟩
      have hn10 : n ≤ 20 := by omega
      have d1 : ¬ (len : Int) ≤ (at_ : Int) := by omega
      have d2 : ¬ 12 < deep := by omega
      have n0 : ¬ (n : Int) < 0 := by omega
      have n1 : ¬ 20 < (n : Int) := by omega
      obtain ⟨b, off, ea, hrow⟩ := hs.at hlt
      simp only at ea
      subst ea
      have TO := hide (fun pre k' => take_okD (r := r) (pre := pre) (k' := k') hlt' hn6 hn10)
      have TN := hide (take_noneD (r := r) hlt' hn6 hn10)
      have bz := bAl (Below.refl w.heap.size w) (.cells #[.string ⟨#[]⟩, .string ⟨#[]⟩, .slice none 0 0, .slice none 0 0, .int .i64 0, .int .i64 0, .slice none 0 0] 38)
      have c0 := cellB bz hrow.z (hrow.c0 at_ hlt')
      have c1 := cellB bz hrow.z (hrow.c1 at_ hlt')
      have c2 := cellB bz hrow.z (hrow.c2 at_ hlt')
      have c3 := cellB bz hrow.z (hrow.c3 at_ hlt')
      have c4 := cellB bz hrow.z (hrow.c4 at_ hlt')
      have cz := Nat.lt_of_lt_of_le hrow.z bz.size
      rw [hn6] at c4
      have HS := hide hs
      have X6 := hide hn6
      have HLEN := hide hlen
      clear hs hrow hno h6a hn6 bz hlen IH
      generalize l[at_] = X at *
      obtain ⟨W2, hW2⟩ : ∃ W, W = (w.alloc (.cells #[.string ⟨#[]⟩, .string ⟨#[]⟩, .slice none 0 0, .slice none 0 0, .int .i64 0, .int .i64 0, .slice none 0 0] 38)).alloc (.cells (rowN X n at_ (.slice none 0 0)) 38) := ⟨_, rfl⟩
      have s2 : W2.heap.size = w.heap.size + 1 + 1 := by rw [hW2]; simp
      have B2 : Hid (Below w.heap.size w W2) := hide (by rw [hW2]; exact bAl (bAl (Below.refl _ _) _) _)
      have Z2 : Hid (RowIs W2 w.heap.size #[.string ⟨#[]⟩, .string ⟨#[]⟩, .slice none 0 0, .slice none 0 0, .int .i64 0, .int .i64 0, .slice none 0 0] 38) := hide (by rw [hW2]; exact (RowIs.new w _ _).keep (bAl (Below.refl _ _) _))
      have X2 : Hid (RowIs W2 (w.heap.size + 1) (rowN X n at_ (.slice none 0 0)) 38) := hide (by
        rw [hW2]
        have := RowIs.new (w.alloc (.cells #[.string ⟨#[]⟩, .string ⟨#[]⟩, .slice none 0 0, .slice none 0 0, .int .i64 0, .int .i64 0, .slice none 0 0] 38)) (rowN X n at_ (.slice none 0 0)) 38
        simpa using this)
      have HW2 := hide hW2.symm
      have bl : w.heap.size + 1 < W2.heap.size := by omega
      clear hW2 s2
      go_enter Tryd.func24, Tryd.ntmps24
      go_wp2_with fail
      rw [unhide HW2]
      clear c0 c1 c2 c3 c4 cz HW2
      go_loopw [1, 9] (fun p i w' => ∃ (k at' : Nat) (ps : List (DT × Value)) (v : Value), k ≤ n ∧ at' ≤ len ∧ i = .int .i64 k ∧ p = .int .i64 at' ∧ Hid (RowIs w' w.heap.size #[.string ⟨#[]⟩, .string ⟨#[]⟩, .slice none 0 0, .slice none 0 0, .int .i64 0, .int .i64 0, .slice none 0 0] 38) ∧ Hid (RowIs w' (w.heap.size + 1) (rowN X n at_ v) 38) ∧ Hid (w'.ownsRow W2.heap.size 38 7 v k (encs7 ps)) ∧ Hid (MadeD r W2.heap.size w' v ps) ∧ Hid (KidsD (takeD l r) n (at_ + 1) k (ps.map (·.1)) at') ∧ Hid (Below w.heap.size w w') ∧ W2.heap.size ≤ w'.heap.size) (fun _ i _ => n - (Go.RowKit.intOf i).toNat)
      case atStart => exact ⟨0, at_ + 1, [], .slice none 0 0, Nat.zero_le _, hlt, rfl, by go_num, Z2, X2, hide (World.ownsRow_nil _ _ _ _), hide (fun i h => by simp at h), hide (KidsD.start _ _ _), B2, Nat.le_refl _⟩
      case round =>
        obtain ⟨k, at', ps, v, hk, hat', rfl, rfl, hz, hx, hown, hmade, hkids, hb, hsz⟩ := hrel
        have x4 := (unhide hx).at (o := 4) (v := .int .i64 (n : Int)) rfl
        have xz := (unhide hx).lt
        by_cases hlt2 : k < n
        · have q := hide (fun w hs => unhide ih (some ⟨b, off, none⟩) len cap l at' (deep + 1) w (by omega) (by omega) hl hs hat')
          go_wp2_with fail
          refine (unhide q _ ((unhide HS).keep (unhide hb))).mono ?_
          rintro e w3 ⟨(⟨hg, rfl⟩ | ⟨t, at2, s, hg, ha2, rfl, htr⟩), hb3⟩
          · have no := hide (unhide TN ((unhide hkids).no hlt2 hg))
            obtain ⟨W3, hW3⟩ : ∃ W, W = w3.alloc (.cells #[.string ⟨#[]⟩, .string ⟨#[]⟩, .slice none 0 0, .slice none 0 0, .int .i64 0, .int .i64 0, .slice none 0 0] 38) := ⟨_, rfl⟩
            have b3 : Below w3.heap.size w3 W3 := by rw [hW3]; exact bAl (Below.refl _ _) _
            have Z3 := ((unhide hz).keep hb3).keep b3
            have B3 := hide (bTr (bTr (unhide hb) hb3) b3)
            have HW3 := hide hW3.symm
            clear hg hb3 q x4 xz b3 hW3
            iterate 20 (try (first | go_values | go_skip | go_guarded | go_step | go_upon | go_simp))
            rw [unhide HW3]
            clear HW3
            have j0 := Z3.at (o := 0) (v := .string ⟨#[]⟩) rfl
            have j1 := Z3.at (o := 1) (v := .string ⟨#[]⟩) rfl
            have j2 := Z3.at (o := 2) (v := .slice none 0 0) rfl
            have j3 := Z3.at (o := 3) (v := .slice none 0 0) rfl
            have j4 := Z3.at (o := 4) (v := .int .i64 0) rfl
            have j5 := Z3.at (o := 5) (v := .int .i64 0) rfl
            have j6 := Z3.at (o := 6) (v := .slice none 0 0) rfl
            have y0 := Z3.froz 0
            have y1 := Z3.froz 1
            have y2 := Z3.froz 2
            have y3 := Z3.froz 3
            have y4 := Z3.froz 4
            have y5 := Z3.froz 5
            have y6 := Z3.froz 6
            have yz := Z3.lt
            clear Z3
            go_wp2_with fail
            refine bodyPost_ret (v := .tuple #[agg7 zX 0 (.slice none 0 0), .int .i64 (-1)]) (by simp [results, Tryd.results24, go_sem, j0, j1, j2, j3, j4, j5, j6]) rfl ⟨.inl ⟨unhide no, rfl⟩, ?_⟩
            (repeat (refine Below.setCell ?_ (by simp) _))
            exact unhide B3
          · have ks := hide ((unhide hkids).step hlt2 hg)
            obtain ⟨Y, hY⟩ : ∃ Y, t.n = Y := ⟨_, rfl⟩
            obtain ⟨ya, hya⟩ : ∃ ya, t.at = ya := ⟨_, rfl⟩
            rw [hY, hya]
            obtain ⟨a1, c1, e1⟩ := own_slD (unhide hown)
            subst e1
            have es2 : Hid (∃ a cap n, s = .slice a n cap) := hide (by
              cases r with
              | zero => exact htr.elim
              | succ r => obtain ⟨_, _, a, cap, rfl, _⟩ := htr; exact ⟨_, _, _, rfl⟩)
            obtain ⟨sa, sc, sn, rfl⟩ := unhide es2
            obtain ⟨W3, hW3⟩ : ∃ W, W = w3.alloc (.cells (row7 Y ya (.slice sa sn sc)) 38) := ⟨_, rfl⟩
            have b3 : Below w3.heap.size w3 W3 := by rw [hW3]; exact bAl (Below.refl _ _) _
            have HB3 := hide hb3
            have HTR := hide htr
            have ha3 : at2 ≤ len := by rw [unhide HLEN]; exact ha2
            have sz3 : W3.heap.size = w3.heap.size + 1 := by rw [hW3]; simp
            have HX3 := hide (((unhide hx).keep hb3).keep b3)
            have K3 := show RowIs W3 w3.heap.size (row7 Y ya (.slice sa sn sc)) 38 by rw [hW3]; exact RowIs.new _ _ _
            have t1 := hide ((own_kD (own_kD (unhide hown) hb3) b3).alloc (.cells (row7 Y ya (.slice sa sn sc)) 38))
            have t2 := hide (cellsD W3 (row7 Y ya (.slice sa sn sc)) 38 W3.heap.size rfl)
            have T3 : Hid (∀ u ∈ enc7 Y ya (.slice sa sn sc), u.oneCell' = true) := hide (fun u hu => by simp [enc7] at hu; rcases hu with rfl | rfl | rfl | rfl | rfl | rfl | rfl <;> rfl)
            have T4 : Hid (W2.heap.size ≤ (W3.alloc (.cells (row7 Y ya (.slice sa sn sc)) 38)).heap.size) := hide (by have := hb3.size; simp; omega)
            have t5 : (k + 1) * 120 ≤ 140737488355328 := by omega
            have lt := hide (fun j hj => (unhide hown).lt j hj)
            have HY := hide hY
            have HYA := hide hya
            have HW3 := hide hW3.symm
            have SZ3 := hide sz3
            clear hg q hb3 htr es2 x4 xz hown hkids hY hya hW3 b3 sz3
            iterate 20 (try (first | go_values | go_skip | go_guarded | go_step | go_upon | go_simp))
            rw [unhide HW3]
            have k0 := K3.at (o := 0) (v := .string Y.t.f0) rfl
            have k1 := K3.at (o := 1) (v := .string Y.t.f1) rfl
            have k2 := K3.at (o := 2) (v := .slice Y.h2.a Y.h2.len Y.h2.cap) rfl
            have k3 := K3.at (o := 3) (v := .slice Y.h3.a Y.h3.len Y.h3.cap) rfl
            have k4 := K3.at (o := 4) (v := .int .i64 Y.t.f4) rfl
            have k5 := K3.at (o := 5) (v := .int .i64 (ya : Int)) rfl
            have k6 := K3.at (o := 6) (v := .slice sa sn sc) rfl
            have kz := K3.lt
            have x6 := (unhide HX3).at (o := 6) (v := .slice a1 k c1) rfl
            have xz := (unhide HX3).lt
            clear K3
            go_wp2_with (at_builtin; refine wpList_append_own_at _ rfl _ _ 36 rfl W2.heap.size 38 i0 _ 7 120 Tryd.underlying36 hi hz0 hz1 hz2 rfl (by decide) _ _ _ rfl (unhide t1) ⟨_, 0, none⟩ 1 1 (enc7 Y ya (.slice sa sn sc)) rfl rfl (unhide t2) (unhide T3) (by unfold maxLen; omega) t5 (unhide T4) ?_; intro v4 w4 hown4 hgrow4 _ hat4; have X4 := hide (rowG4 ((unhide HX3).keep (bAl (Below.refl _ _) (.cells (row7 Y ya (.slice sa sn sc)) 38))) hgrow4 (fun e => by have := (unhide lt _ e.symm).1; omega)); have g7 := (unhide X4).at (o := 6) (v := .slice a1 k c1) rfl; have g8 := (unhide X4).froz 6; have gz0 := (unhide X4).lt; obtain ⟨a4, c4, e4⟩ := own_slD hown4; subst e4)
            have szr : wr.heap.size ≤ w3.heap.size := (unhide HB3).size
            have gz : (W3.alloc (.cells (row7 Y ya (.slice sa sn sc)) 38)).heap.size ≤ w4.heap.size := hgrow4.size
            have gz' : w3.heap.size + 1 + 1 ≤ w4.heap.size := by have := unhide SZ3; simp at gz; omega
            have BW : Below w.heap.size w w4 := by
              have h1 : Below w.heap.size w W3 := by rw [← unhide HW3]; exact bAl (bTr (unhide hb) (unhide HB3)) _
              exact (bAl h1 _).grown hgrow4 (by have := (unhide hb).size; have := unhide SZ3; simp; omega) (fun j hj => by have := (unhide lt j hj).1; omega)
            refine ⟨⟨k + 1, at2, ps ++ [(t, .slice sa sn sc)], .slice a4 (k + 1) c4, by omega, ha3, by go_num, rfl, hide ?_, hide ?_, hide ?_, hide ?_, hide ?_, hide ?_, ?_⟩, by simp [Go.RowKit.intOf]; omega⟩
            · refine RowIs.setOther ?_ _ (by omega)
              rw [← unhide HW3] at hgrow4
              exact rowG4 ((((unhide hz).keep (unhide HB3)).keep (bAl (Below.refl _ _) _)).keep (bAl (Below.refl _ _) _)) hgrow4 (fun e => by have := (unhide lt _ e.symm).1; omega)
            · have := (unhide X4).set 6 (.slice a4 (k + 1) c4)
              exact this
            · rw [encs7_snoc, unhide HY, unhide HYA]
              exact own_setX hown4 (fun g e => by have := (hown4.lt g e).1; omega)
            · rw [← unhide HW3] at hgrow4 hat4
              have fl : ps.length = k := by have := (unhide ks).2.1; simp at this; omega
              exact MadeD.next fl (unhide hmade) (unhide HB3) (unhide HTR) hsz hgrow4 (fun g hg => (unhide lt g hg).2) hat4 bl
            · have := unhide ks
              simpa using this
            · exact BW.setCell (by simp) _
            · simp [World.setCell]; omega
        · have ek : k = n := by omega
          subst ek
          have fl : ps.length = k := by have := (unhide hkids).2.1; simpa using this
          have ko := hide (unhide TO _ _ ((unhide hkids).done))
          have tr := hide (MadeD.tree (x := X) (k := at_) (unhide hmade) (by rw [fl]; exact unhide hown) (by rw [unhide X6, fl]) (by omega))
          obtain ⟨a1, c1, e1⟩ := own_slD (unhide hown)
          subst e1
          have X3 := unhide hx
          have k0 := X3.at (o := 0) (v := .string X.t.f0) rfl
          have k1 := X3.at (o := 1) (v := .string X.t.f1) rfl
          have k2 := X3.at (o := 2) (v := .slice X.h2.a X.h2.len X.h2.cap) rfl
          have k3 := X3.at (o := 3) (v := .slice X.h3.a X.h3.len X.h3.cap) rfl
          have k5 := X3.at (o := 5) (v := .int .i64 (at_ : Int)) rfl
          have k6 := X3.at (o := 6) (v := .slice a1 k c1) rfl
          have Z3 := unhide hz
          have j0 := Z3.at (o := 0) (v := .string ⟨#[]⟩) rfl
          have j1 := Z3.at (o := 1) (v := .string ⟨#[]⟩) rfl
          have j2 := Z3.at (o := 2) (v := .slice none 0 0) rfl
          have j3 := Z3.at (o := 3) (v := .slice none 0 0) rfl
          have j4 := Z3.at (o := 4) (v := .int .i64 0) rfl
          have j5 := Z3.at (o := 5) (v := .int .i64 0) rfl
          have j6 := Z3.at (o := 6) (v := .slice none 0 0) rfl
          have y0 := Z3.froz 0
          have y1 := Z3.froz 1
          have y2 := Z3.froz 2
          have y3 := Z3.froz 3
          have y4 := Z3.froz 4
          have y5 := Z3.froz 5
          have y6 := Z3.froz 6
          have yz := Z3.lt
          have HL := hide (unhide HS).1
          have ex : Hid (agg7 (DT.node X at_ (ps.map (·.1))).n (DT.node X at_ (ps.map (·.1))).at (.slice a1 k c1) = .agg (rowN X k at_ (.slice a1 k c1))) := hide (by simp [DT.n, DT.at, unhide X6])
          clear Z3 X3 hmade hown hkids fl
          go_wp2_with fail
          refine bodyPost_ret (v := .tuple #[.agg (rowN X k at_ (.slice a1 k c1)), .int .i64 (at' : Int)]) (by simp [results, Tryd.results24, go_sem, j0, j1, j2, j3, j4, j5, j6]) rfl ⟨.inr ⟨.node X at_ (ps.map (·.1)), at', .slice a1 k c1, unhide ko, by rw [← unhide HLEN]; exact hat', by rw [unhide ex], ?_⟩, ?_⟩
          · refine ((unhide tr).keptD ?_).low (by omega)
            (repeat (refine KeptD.set ?_ _ _ _ (by omega)))
            exact KeptD.refl _ _
          · (repeat (refine Below.setCell ?_ (by simp) _))
            exact unhide hb
theorem l20Take_any : ∀ (r : Nat) (a : Option Addr) (len cap : Nat) (l : List ElemE) (at_ : Nat) (deep : Int) (w : World), deep + r = 13 → r ≤ 12 → len ≤ 1000 → SqElemE w 0 ⟨a, len, cap⟩ l → at_ ≤ len →
    Calls Tryd.prog 24 #[.slice a len cap, .int .i64 at_, .int .i64 deep] w fun e w' => TakeO w' w.heap.size r l at_ e ∧ Below w.heap.size w w'
  | 0, a, len, cap, l, at_, deep, w, hd, hr, hl, hs, ha => by
    refine (l20Take_no 0 a len cap l at_ deep w hd hr hs ha (.inr (.inl rfl))).mono ?_
    rintro e w' ⟨rfl, hb⟩
    exact ⟨.inl ⟨rfl, rfl⟩, hb⟩
  | r + 1, a, len, cap, l, at_, deep, w, hd, hr, hl, hs, ha => l20Take_step r (l20Take_any r) a len cap l at_ deep w hd hr hl hs ha
end Go.Proofs.YtdhpfhpegaekpaaDoor.V
