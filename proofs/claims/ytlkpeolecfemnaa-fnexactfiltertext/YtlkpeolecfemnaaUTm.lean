/- spec.l3Take: the whole. -/
import Derived.Test.YtlkpeolecfemnaaUTl
namespace Go.Proofs.Ytlkpeolecfemnaa.V
open Go.RowKit Go.Maps

theorem drop_cons {l : List FilterNodeT} {k : Nat} (h : k < l.length) : l.drop k = l[k] :: l.drop (k + 1) := List.drop_eq_getElem_cons h
theorem take_ok {r : Nat} {l : List FilterNodeT} {k n : Nat} (h : k < l.length) (h6 : l[k].f3 = (n : Int)) (hn : n ≤ 20) {pre : List FT} {l' : List FilterNodeT} (ht : takeK (takeT r) n (l.drop (k + 1)) = some (pre, l')) : takeT (r + 1) (l.drop k) = some (.node l[k] pre, l') := by
  rw [drop_cons h, takeT, if_neg (by omega), show (l[k].f3).toNat = n by omega, ht]; rfl
theorem take_none {r : Nat} {l : List FilterNodeT} {k n : Nat} (h : k < l.length) (h6 : l[k].f3 = (n : Int)) (hn : n ≤ 20) (ht : takeK (takeT r) n (l.drop (k + 1)) = none) : takeT (r + 1) (l.drop k) = none := by
  rw [drop_cons h, takeT, if_neg (by omega), show (l[k].f3).toNat = n by omega, ht]; rfl

set_option maxRecDepth 20000 in
set_option maxHeartbeats 4000000 in
theorem l3Take_any : ∀ (r : Nat) (a : Option Addr) (len cap : Nat) (l : List FilterNodeT) (at_ : Nat) (deep : Int) (w : World), deep + r = 21 → r ≤ 20 → len ≤ 1000 → SlFilterNode w a len l → at_ ≤ len →
    Calls Try.prog 16 #[.slice a len cap, .int .i64 at_, .int .i64 deep] w fun e w' => TakeEnd w' w.heap.size r l at_ e ∧ Below w.heap.size w w'
  | 0, a, len, cap, l, at_, deep, w, hd, hr, hl, hs, ha => by
    refine (l3Take_no 0 a len cap l at_ deep w hd hr hs ha (.inr (.inl rfl))).mono ?_
    rintro e w' ⟨rfl, hb⟩
    exact ⟨.inl ⟨rfl, rfl⟩, hb⟩
  | r + 1, a, len, cap, l, at_, deep, w, hd, hr, hl, hs, ha => by
    by_cases hno : at_ = len ∨ r + 1 = 0 ∨ ∃ h : at_ < l.length, l[at_].f3 < 0 ∨ 20 < l[at_].f3
    · refine (l3Take_no (r + 1) a len cap l at_ deep w hd hr hs ha hno).mono ?_
      rintro e w' ⟨rfl, hb⟩
      refine ⟨.inl ⟨?_, rfl⟩, hb⟩
      rcases hno with h | h | ⟨h, hk⟩
      · rw [h, hs.1, List.drop_length]; rfl
      · omega
      · rw [drop_cons h, takeT, if_pos hk]
    · have ih := hide (l3Take_any r)
      obtain ⟨i0, hi, hz0, hz1, hz2⟩ := info_parts info_l3F
      have hlt : at_ < len := by have : ¬ at_ = len := fun h => hno (.inl h); omega
      have hlt' : at_ < l.length := by rw [← hs.1]; exact hlt
      have h6a : ¬ (l[at_].f3 < 0 ∨ 20 < l[at_].f3) := fun h => hno (.inr (.inr ⟨hlt', h⟩))
      obtain ⟨n, hn6⟩ : ∃ n : Nat, l[at_].f3 = (n : Int) := ⟨l[at_].f3.toNat, by omega⟩
      have hn10 : n ≤ 20 := by omega
      have d1 : ¬ (len : Int) ≤ (at_ : Int) := by omega
      have d2 : ¬ 20 < deep := by omega
      have n0 : ¬ (n : Int) < 0 := by omega
      have n1 : ¬ 20 < (n : Int) := by omega
      obtain ⟨b, off, rfl, hrow⟩ := hs.at hlt
      have TO := hide (fun pre l' => take_ok (r := r) (pre := pre) (l' := l') hlt' hn6 hn10)
      have TN := hide (take_none (r := r) hlt' hn6 hn10)
      have R1 := hrow.keep (bAl (Below.refl _ _) (.cells (row8 zX (.slice none 0 0)) 35))
      have c0 := R1.c0 at_ hlt'
      have c1 := R1.c1 at_ hlt'
      have c2 := R1.c2 at_ hlt'
      have c3 := R1.c3 at_ hlt'
      rw [hn6] at c3
      have HS := hide hs
      have H6 := hide hn6
      clear hs hrow R1 hno h6a hn6
      generalize l[at_] = x at *
      obtain ⟨f0, f1, f2, f3⟩ := x
      have h6 := unhide H6
      simp only at h6
      subst h6
      simp only at c0 c1 c2 c3
      obtain ⟨X, hX⟩ : ∃ X : FilterNodeT, X = ⟨f0, f1, f2, (n : Int)⟩ := ⟨_, rfl⟩
      obtain ⟨W2, hW2⟩ : ∃ W, W = (w.alloc (.cells (row8 zX (.slice none 0 0)) 35)).alloc (.cells #[.int .i64 f0, .string f1, .string f2, .int .i64 (n : Int), .slice none 0 0] 35) := ⟨_, rfl⟩
      have s2 : W2.heap.size = w.heap.size + 1 + 1 := by rw [hW2]; simp
      have B2 : Hid (Below w.heap.size w W2) := hide (by rw [hW2]; exact bAl (bAl (Below.refl _ _) _) _)
      have Z2 : Hid (RowIs W2 w.heap.size (row8 zX (.slice none 0 0)) 35) := hide (by rw [hW2]; exact (RowIs.new w _ _).keep (bAl (Below.refl _ _) _))
      have X2 : Hid (RowIs W2 (w.heap.size + 1) (row8 X (.slice none 0 0)) 35) := hide (by
        rw [hW2, hX]
        have := RowIs.new (w.alloc (.cells (row8 zX (.slice none 0 0)) 35)) #[.int .i64 f0, .string f1, .string f2, .int .i64 (n : Int), .slice none 0 0] 35
        simpa using this)
      have HW2 := hide hW2.symm
      have S2 := hide s2
      have X6 : Hid (X.f3 = (n : Int)) := hide (by rw [hX])
      rw [← hX] at TO
      have bl : w.heap.size + 1 < W2.heap.size := by omega
      clear hW2 hX s2
      go_enter Try.func16, Try.ntmps16
      go_wp2_with fail
      rw [unhide HW2]
      clear c0 c1 c2 c3 HW2 H6
      go_loopw [1, 9] (fun p i w' => ∃ (k at' : Nat) (ps : List (FT × Value)) (v : Value), k ≤ n ∧ at' ≤ len ∧ i = .int .i64 k ∧ p = .int .i64 at' ∧ Hid (RowIs w' w.heap.size (row8 zX (.slice none 0 0)) 35) ∧ Hid (RowIs w' (w.heap.size + 1) (row8 X v) 35) ∧ Hid (w'.ownsRow W2.heap.size 35 5 v k (encs8 ps)) ∧ Hid (MadeY r W2.heap.size w' v ps) ∧ Hid (KidsTo (takeT r) n (l.drop (at_ + 1)) k (ps.map (·.1)) (l.drop at')) ∧ Hid (Below w.heap.size w w') ∧ W2.heap.size ≤ w'.heap.size) (fun _ i _ => n - (Go.RowKit.intOf i).toNat)
      case atStart => exact ⟨0, at_ + 1, [], .slice none 0 0, Nat.zero_le _, hlt, rfl, by go_num, Z2, X2, hide (World.ownsRow_nil _ _ _ _), hide (fun i h => by simp at h), hide (KidsTo.start _ _ _), B2, Nat.le_refl _⟩
      case round =>
        obtain ⟨k, at', ps, v, hk, hat', rfl, rfl, hz, hx, hown, hmade, hkids, hb, hsz⟩ := hrel
        have x3 := (unhide hx).at (o := 3) (v := .int .i64 X.f3) rfl
        rw [unhide X6] at x3
        by_cases hlt2 : k < n
        · have q := hide (fun w hs => unhide ih (some ⟨b, off, none⟩) len cap l at' (deep + 1) w (by omega) (by omega) hl hs hat')
          go_wp2_with fail
          refine (unhide q _ ((unhide HS).keep (unhide hb))).mono ?_
          rintro e w3 ⟨(⟨hg, rfl⟩ | ⟨t, at2, s, hg, ha2, rfl, htr⟩), hb3⟩
          · have no := hide (unhide TN ((unhide hkids).no hlt2 hg))
            obtain ⟨W3, hW3⟩ : ∃ W, W = w3.alloc (.cells (row8 zX (.slice none 0 0)) 35) := ⟨_, rfl⟩
            have b3 : Below w3.heap.size w3 W3 := by rw [hW3]; exact bAl (Below.refl _ _) _
            have Z3 := ((unhide hz).keep hb3).keep b3
            have B3 := hide (bTr (bTr (unhide hb) hb3) b3)
            have HW3 := hide hW3.symm
            clear hg hb3 q x3 b3 hW3
            iterate 20 (try (first | go_values | go_skip | go_guarded | go_step | go_upon | go_simp))
            rw [unhide HW3]
            clear HW3
            have j0 := Z3.at (o := 0) (v := .int .i64 0) rfl
            have j1 := Z3.at (o := 1) (v := .string ⟨#[]⟩) rfl
            have j2 := Z3.at (o := 2) (v := .string ⟨#[]⟩) rfl
            have j3 := Z3.at (o := 3) (v := .int .i64 0) rfl
            have j4 := Z3.at (o := 4) (v := .slice none 0 0) rfl
            have y0 := Z3.froz 0
            have y1 := Z3.froz 1
            have y2 := Z3.froz 2
            have y3 := Z3.froz 3
            have y4 := Z3.froz 4
            clear Z3
            go_wp2_with fail
            refine bodyPost_ret (v := .tuple #[agg8 zX (.slice none 0 0), .int .i64 (-1)]) (by simp [results, Try.results16, go_sem, j0, j1, j2, j3, j4]) rfl ⟨.inl ⟨unhide no, rfl⟩, ?_⟩
            (repeat (refine Below.setCell ?_ (by simp) _))
            exact unhide B3
          · have ks := hide ((unhide hkids).step hlt2 hg)
            obtain ⟨Y, hY⟩ : ∃ Y, t.n = Y := ⟨_, rfl⟩
            rw [hY]
            obtain ⟨a1, c1, e1⟩ := own_sl (unhide hown)
            subst e1
            have es2 : Hid (∃ a cap n, s = .slice a n cap) := hide (by
              cases r with
              | zero => exact htr.elim
              | succ r => obtain ⟨_, _, a, cap, rfl, _⟩ := htr; exact ⟨_, _, _, rfl⟩)
            obtain ⟨sa, sc, sn, rfl⟩ := unhide es2
            obtain ⟨W3, hW3⟩ : ∃ W, W = w3.alloc (.cells (row8 Y (.slice sa sn sc)) 35) := ⟨_, rfl⟩
            have b3 : Below w3.heap.size w3 W3 := by rw [hW3]; exact bAl (Below.refl _ _) _
            have HB3 := hide hb3
            have HTR := hide htr
            have ha3 : at2 ≤ len := by rw [(unhide HS).1]; exact ha2
            have sz3 : W3.heap.size = w3.heap.size + 1 := by rw [hW3]; simp
            have HX3 := hide (((unhide hx).keep hb3).keep b3)
            have K3 := show RowIs W3 w3.heap.size (row8 Y (.slice sa sn sc)) 35 by rw [hW3]; exact RowIs.new _ _ _
            have t1 := hide ((own_keepT (own_keepT (unhide hown) hb3) b3).alloc (.cells (row8 Y (.slice sa sn sc)) 35))
            have t2 := hide (cell_four_new W3 (enc8 Y (.slice sa sn sc)) 35)
            have T3 : Hid (∀ u ∈ enc8 Y (.slice sa sn sc), u.oneCell' = true) := hide (fun u hu => by simp [enc8] at hu; rcases hu with rfl | rfl | rfl | rfl | rfl <;> rfl)
            have T4 : Hid (W2.heap.size ≤ (W3.alloc (.cells (row8 Y (.slice sa sn sc)) 35)).heap.size) := hide (by have := hb3.size; simp; omega)
            have t5 : (k + 1) * 72 ≤ 140737488355328 := by omega
            have lt := hide (fun j hj => (unhide hown).lt j hj)
            have HY := hide hY
            have HW3 := hide hW3.symm
            have SZ3 := hide sz3
            clear hg q hb3 htr es2 x3 hown hkids hY hW3 b3 sz3
            iterate 20 (try (first | go_values | go_skip | go_guarded | go_step | go_upon | go_simp))
            rw [unhide HW3]
            have k0 := K3.at (o := 0) (v := .int .i64 Y.f0) rfl
            have k1 := K3.at (o := 1) (v := .string Y.f1) rfl
            have k2 := K3.at (o := 2) (v := .string Y.f2) rfl
            have k3 := K3.at (o := 3) (v := .int .i64 Y.f3) rfl
            have k4 := K3.at (o := 4) (v := .slice sa sn sc) rfl
            have x4 := (unhide HX3).at (o := 4) (v := .slice a1 k c1) rfl
            clear K3
            go_wp2_with (at_builtin; refine wpList_append_own_at _ rfl _ _ 33 rfl W2.heap.size 35 i0 _ 5 72 Try.underlying33 hi hz0 hz1 hz2 rfl (by decide) _ _ _ rfl (unhide t1) ⟨_, 0, none⟩ 1 1 (enc8 Y (.slice sa sn sc)) rfl rfl (unhide t2) (unhide T3) (by unfold maxLen; omega) t5 (unhide T4) ?_; intro v4 w4 hown4 hgrow4 _ hat4; have X4 := hide (((unhide HX3).keep (bAl (Below.refl _ _) (.cells (row8 Y (.slice sa sn sc)) 35))).grown hgrow4 (fun e => by have := (unhide lt _ e.symm).1; omega)); have g7 := (unhide X4).at (o := 4) (v := .slice a1 k c1) rfl; have g8 := (unhide X4).froz 4; obtain ⟨a4, c4, e4⟩ := own_sl hown4; subst e4)
            have szr : wr.heap.size ≤ w3.heap.size := (unhide HB3).size
            have gz : (W3.alloc (.cells (row8 Y (.slice sa sn sc)) 35)).heap.size ≤ w4.heap.size := hgrow4.size
            have gz' : w3.heap.size + 1 + 1 ≤ w4.heap.size := by have := unhide SZ3; simp at gz; omega
            have BW : Below w.heap.size w w4 := (((unhide hb).trans ((unhide HB3).mono (unhide hb).size)).trans (((bAl (Below.refl w3.heap.size w3) (.cells (row8 Y (.slice sa sn sc)) 35)).mono (Nat.le_trans (unhide hb).size szr)))) |> fun h => by
              rw [unhide HW3] at h
              exact (h.alloc (by have := unhide SZ3; have := (unhide hb).size; omega) _).grown hgrow4 (by have := (unhide hb).size; have := unhide SZ3; simp; omega) (fun j hj => by have := (unhide lt j hj).1; omega)
            refine ⟨⟨k + 1, at2, ps ++ [(t, .slice sa sn sc)], .slice a4 (k + 1) c4, by omega, ha3, by go_num, rfl, hide ?_, hide ?_, hide ?_, hide ?_, hide ?_, hide ?_, ?_⟩, by simp [Go.RowKit.intOf]; omega⟩
            · refine RowIs.setOther ?_ _ (by omega)
              rw [← unhide HW3] at hgrow4
              exact ((((unhide hz).keep (unhide HB3)).keep (bAl (Below.refl _ _) _)).keep (bAl (Below.refl _ _) _)).grown hgrow4 (fun e => by have := (unhide lt _ e.symm).1; omega)
            · have := (unhide X4).set 4 (.slice a4 (k + 1) c4)
              exact this
            · rw [encs8_snoc, unhide HY]
              exact own_set hown4 (fun g e => by have := (hown4.lt g e).1; omega)
            · rw [← unhide HW3] at hgrow4 hat4
              have fl : ps.length = k := by have := (unhide ks).2.1; simp at this; omega
              exact MadeY.next fl (unhide hmade) (unhide HB3) (unhide HTR) hsz hgrow4 (fun g hg => (unhide lt g hg).2) hat4 bl
            · have := unhide ks
              simpa using this
            · exact BW.setCell (by simp) _
            · simp [World.setCell]; omega
        · have ek : k = n := by omega
          subst ek
          have fl : ps.length = k := by have := (unhide hkids).2.1; simpa using this
          have ko := hide (unhide TO _ _ ((unhide hkids).done))
          have tr := hide (MadeY.tree (x := X) (unhide hmade) (by rw [fl]; exact unhide hown) (by rw [unhide X6, fl]) (by omega))
          obtain ⟨a1, c1, e1⟩ := own_sl (unhide hown)
          subst e1
          have X3 := unhide hx
          have k0 := X3.at (o := 0) (v := .int .i64 X.f0) rfl
          have k1 := X3.at (o := 1) (v := .string X.f1) rfl
          have k2 := X3.at (o := 2) (v := .string X.f2) rfl
          have k3 := X3.at (o := 3) (v := .int .i64 X.f3) rfl
          have k4 := X3.at (o := 4) (v := .slice a1 k c1) rfl
          have Z3 := unhide hz
          have j0 := Z3.at (o := 0) (v := .int .i64 0) rfl
          have j1 := Z3.at (o := 1) (v := .string ⟨#[]⟩) rfl
          have j2 := Z3.at (o := 2) (v := .string ⟨#[]⟩) rfl
          have j3 := Z3.at (o := 3) (v := .int .i64 0) rfl
          have j4 := Z3.at (o := 4) (v := .slice none 0 0) rfl
          have y0 := Z3.froz 0
          have y1 := Z3.froz 1
          have y2 := Z3.froz 2
          have y3 := Z3.froz 3
          have y4 := Z3.froz 4
          have HL := hide (unhide HS).1
          rw [unhide X6] at k3
          have ex : Hid (agg8 (FT.node X (ps.map (·.1))).n (.slice a1 k c1) = .agg #[.int .i64 X.f0, .string X.f1, .string X.f2, .int .i64 (k : Int), .slice a1 k c1]) := hide (by simp [FT.n, unhide X6])
          clear Z3 X3 x3 hmade hown hkids fl
          go_wp2_with fail
          refine bodyPost_ret (v := .tuple #[.agg #[.int .i64 X.f0, .string X.f1, .string X.f2, .int .i64 (k : Int), .slice a1 k c1], .int .i64 (at' : Int)]) (by simp [results, Try.results16, go_sem, j0, j1, j2, j3, j4]) rfl ⟨.inr ⟨.node X (ps.map (·.1)), at', .slice a1 k c1, unhide ko, by rw [← unhide HL]; exact hat', by rw [unhide ex], ?_⟩, ?_⟩
          · refine ((unhide tr).keptY ?_).low (by omega)
            (repeat (refine KeptY.set ?_ _ _ _ (by omega)))
            exact KeptY.refl _ _
          · (repeat (refine Below.setCell ?_ (by simp) _))
            exact unhide hb
end Go.Proofs.Ytlkpeolecfemnaa.V
