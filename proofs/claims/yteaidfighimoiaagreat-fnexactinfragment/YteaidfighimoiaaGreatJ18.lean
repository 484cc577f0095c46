/- YTm, YRi, one behind the other. -/
import Derived.Test.YteaidfighimoiaaGreatJ17
import Derived.Test.YteaidfighimoiaaGreatJ1
import Derived.Deep.CutBlock
import Derived.Deep.DeepCutAuto
/- spec.l10Take: the whole. -/
namespace Go.Proofs.YteaidfighimoiaaGreat.V
open Go.RowKit Go.Maps

theorem drop_cons {l : List ExprT} {k : Nat} (h : k < l.length) : l.drop k = l[k] :: l.drop (k + 1) := List.drop_eq_getElem_cons h
theorem take_ok {r : Nat} {l : List ExprT} {k n : Nat} (h : k < l.length) (h6 : l[k].f6 = (n : Int)) (hn : n ≤ 10) {pre : List ET} {l' : List ExprT} (ht : takeK (takeT r) n (l.drop (k + 1)) = some (pre, l')) : takeT (r + 1) (l.drop k) = some (.node l[k] pre, l') := by
  rw [drop_cons h, takeT, if_neg (by omega), show (l[k].f6).toNat = n by omega, ht]; rfl
theorem take_none {r : Nat} {l : List ExprT} {k n : Nat} (h : k < l.length) (h6 : l[k].f6 = (n : Int)) (hn : n ≤ 10) (ht : takeK (takeT r) n (l.drop (k + 1)) = none) : takeT (r + 1) (l.drop k) = none := by
  rw [drop_cons h, takeT, if_neg (by omega), show (l[k].f6).toNat = n by omega, ht]; rfl

set_option maxRecDepth 20000 in
set_option maxHeartbeats 4000000 in
theorem l10Take_any : ∀ (r : Nat) (a : Option Addr) (len cap : Nat) (l : List ExprT) (at_ : Nat) (deep : Int) (w : World), deep + r = 13 → r ≤ 12 → len ≤ 1000 → SlExpr w a len l → at_ ≤ len →
    Calls Tryz.prog 28 #[.slice a len cap, .int .i64 at_, .int .i64 deep] w fun e w' => TakeEnd w' w.heap.size r l at_ e ∧ Below w.heap.size w w'
  | 0, a, len, cap, l, at_, deep, w, hd, hr, hl, hs, ha => by
    refine (l10Take_no 0 a len cap l at_ deep w hd hr hs ha (.inr (.inl rfl))).mono ?_
    rintro e w' ⟨rfl, hb⟩
    exact ⟨.inl ⟨rfl, rfl⟩, hb⟩
  | r + 1, a, len, cap, l, at_, deep, w, hd, hr, hl, hs, ha => by
    by_cases hno : at_ = len ∨ r + 1 = 0 ∨ ∃ h : at_ < l.length, l[at_].f6 < 0 ∨ 10 < l[at_].f6
    · refine (l10Take_no (r + 1) a len cap l at_ deep w hd hr hs ha hno).mono ?_
      rintro e w' ⟨rfl, hb⟩
      refine ⟨.inl ⟨?_, rfl⟩, hb⟩
      rcases hno with h | h | ⟨h, hk⟩
      · rw [h, hs.1, List.drop_length]; rfl
      · omega
      · rw [drop_cons h, takeT, if_pos hk]
    · have ih := hide (l10Take_any r)
      obtain ⟨i0, hi, hz0, hz1, hz2⟩ := info_parts info_l10E
      have hlt : at_ < len := by have : ¬ at_ = len := fun h => hno (.inl h); omega
      have hlt' : at_ < l.length := by rw [← hs.1]; exact hlt
      have h6a : ¬ (l[at_].f6 < 0 ∨ 10 < l[at_].f6) := fun h => hno (.inr (.inr ⟨hlt', h⟩))
      obtain ⟨n, hn6⟩ : ∃ n : Nat, l[at_].f6 = (n : Int) := ⟨l[at_].f6.toNat, by omega⟩
      have hn10 : n ≤ 10 := by omega
      have d1 : ¬ (len : Int) ≤ (at_ : Int) := by omega
      have d2 : ¬ 12 < deep := by omega
      have n0 : ¬ (n : Int) < 0 := by omega
      have n1 : ¬ 10 < (n : Int) := by omega
      obtain ⟨b, off, rfl, hrow⟩ := hs.at hlt
      have TO := hide (fun pre l' => take_ok (r := r) (pre := pre) (l' := l') hlt' hn6 hn10)
      have TN := hide (take_none (r := r) hlt' hn6 hn10)
      have R1 := hrow.keep (bAl (Below.refl _ _) (.cells (row8 zX (.slice none 0 0)) 47))
      have c0 := R1.c0 at_ hlt'
      have c1 := R1.c1 at_ hlt'
      have c2 := R1.c2 at_ hlt'
      have c3 := R1.c3 at_ hlt'
      have c4 := R1.c4 at_ hlt'
      have c5 := R1.c5 at_ hlt'
      have c6 := R1.c6 at_ hlt'
      rw [hn6] at c6
      have HS := hide hs
      have H6 := hide hn6
      clear hs hrow R1 hno h6a hn6
      generalize l[at_] = x at *
      obtain ⟨f0, f1, f2, f3, f4, f5, f6⟩ := x
      have h6 := unhide H6
      simp only at h6
      subst h6
      simp only at c0 c1 c2 c3 c4 c5 c6
      obtain ⟨X, hX⟩ : ∃ X : ExprT, X = ⟨f0, f1, f2, f3, f4, f5, (n : Int)⟩ := ⟨_, rfl⟩
      obtain ⟨W2, hW2⟩ : ∃ W, W = (w.alloc (.cells (row8 zX (.slice none 0 0)) 47)).alloc (.cells #[.int .i64 f0, .string f1, .int .i64 f2, .int .i64 f3, .string f4, .string f5, .int .i64 (n : Int), .slice none 0 0] 47) := ⟨_, rfl⟩
      have s2 : W2.heap.size = w.heap.size + 1 + 1 := by rw [hW2]; simp
      have B2 : Hid (Below w.heap.size w W2) := hide (by rw [hW2]; exact bAl (bAl (Below.refl _ _) _) _)
      have Z2 : Hid (RowIs W2 w.heap.size (row8 zX (.slice none 0 0)) 47) := hide (by rw [hW2]; exact (RowIs.new w _ _).keep (bAl (Below.refl _ _) _))
      have X2 : Hid (RowIs W2 (w.heap.size + 1) (row8 X (.slice none 0 0)) 47) := hide (by
        rw [hW2, hX]
        have := RowIs.new (w.alloc (.cells (row8 zX (.slice none 0 0)) 47)) #[.int .i64 f0, .string f1, .int .i64 f2, .int .i64 f3, .string f4, .string f5, .int .i64 (n : Int), .slice none 0 0] 47
        simpa using this)
      have HW2 := hide hW2.symm
      have S2 := hide s2
      have X6 : Hid (X.f6 = (n : Int)) := hide (by rw [hX])
      rw [← hX] at TO
      have bl : w.heap.size + 1 < W2.heap.size := by omega
      clear hW2 hX s2
      go_enter Tryz.func28, Tryz.ntmps28
      go_wp2_with fail
      rw [unhide HW2]
      clear c0 c1 c2 c3 c4 c5 c6 HW2 H6
      go_loopw [1, 9] (fun p i w' => ∃ (k at' : Nat) (ps : List (ET × Value)) (v : Value), k ≤ n ∧ at' ≤ len ∧ i = .int .i64 k ∧ p = .int .i64 at' ∧ Hid (RowIs w' w.heap.size (row8 zX (.slice none 0 0)) 47) ∧ Hid (RowIs w' (w.heap.size + 1) (row8 X v) 47) ∧ Hid (w'.ownsRow W2.heap.size 47 8 v k (encs8 ps)) ∧ Hid (MadeY r W2.heap.size w' v ps) ∧ Hid (KidsTo (takeT r) n (l.drop (at_ + 1)) k (ps.map (·.1)) (l.drop at')) ∧ Hid (Below w.heap.size w w') ∧ W2.heap.size ≤ w'.heap.size) (fun _ i _ => n - (Go.RowKit.intOf i).toNat)
      case atStart => exact ⟨0, at_ + 1, [], .slice none 0 0, Nat.zero_le _, hlt, rfl, by go_num, Z2, X2, hide (World.ownsRow_nil _ _ _ _), hide (fun i h => by simp at h), hide (KidsTo.start _ _ _), B2, Nat.le_refl _⟩
      case round =>
        obtain ⟨k, at', ps, v, hk, hat', rfl, rfl, hz, hx, hown, hmade, hkids, hb, hsz⟩ := hrel
        have x6 := (unhide hx).at (o := 6) (v := .int .i64 X.f6) rfl
        rw [unhide X6] at x6
        by_cases hlt2 : k < n
        · have q := hide (fun w hs => unhide ih (some ⟨b, off, none⟩) len cap l at' (deep + 1) w (by omega) (by omega) hl hs hat')
          go_wp2_with fail
          refine (unhide q _ ((unhide HS).keep (unhide hb))).mono ?_
          rintro e w3 ⟨(⟨hg, rfl⟩ | ⟨t, at2, s, hg, ha2, rfl, htr⟩), hb3⟩
          · have no := hide (unhide TN ((unhide hkids).no hlt2 hg))
            obtain ⟨W3, hW3⟩ : ∃ W, W = w3.alloc (.cells (row8 zX (.slice none 0 0)) 47) := ⟨_, rfl⟩
            have b3 : Below w3.heap.size w3 W3 := by rw [hW3]; exact bAl (Below.refl _ _) _
            have Z3 := ((unhide hz).keep hb3).keep b3
            have B3 := hide (bTr (bTr (unhide hb) hb3) b3)
            have HW3 := hide hW3.symm
            clear hg hb3 q x6 b3 hW3
            iterate 20 (try (first | go_values | go_skip | go_guarded | go_step | go_upon | go_simp))
            rw [unhide HW3]
            clear HW3
            have j0 := Z3.at (o := 0) (v := .int .i64 0) rfl
            have j1 := Z3.at (o := 1) (v := .string ⟨#[]⟩) rfl
            have j2 := Z3.at (o := 2) (v := .int .i64 0) rfl
            have j3 := Z3.at (o := 3) (v := .int .i64 0) rfl
            have j4 := Z3.at (o := 4) (v := .string ⟨#[]⟩) rfl
            have j5 := Z3.at (o := 5) (v := .string ⟨#[]⟩) rfl
            have j6 := Z3.at (o := 6) (v := .int .i64 0) rfl
            have j7 := Z3.at (o := 7) (v := .slice none 0 0) rfl
            have y0 := Z3.froz 0
            have y1 := Z3.froz 1
            have y2 := Z3.froz 2
            have y3 := Z3.froz 3
            have y4 := Z3.froz 4
            have y5 := Z3.froz 5
            have y6 := Z3.froz 6
            have y7 := Z3.froz 7
            clear Z3
            go_wp2_with fail
            refine bodyPost_ret (v := .tuple #[agg8 zX (.slice none 0 0), .int .i64 (-1)]) (by simp [results, Tryz.results28, go_sem, j0, j1, j2, j3, j4, j5, j6, j7]) rfl ⟨.inl ⟨unhide no, rfl⟩, ?_⟩
            (repeat (refine Below.setCell ?_ (by simp) _))
            exact unhide B3
          · have ks := hide ((unhide hkids).step hlt2 hg)
            obtain ⟨Y, hY⟩ : ∃ Y, t.n = Y := ⟨_, rfl⟩
            rw [hY]
            obtain ⟨a1, c1, e1⟩ := own_sl (unhide hown)
            subst e1
            have es2 : Hid (∃ a cap n, s = .slice a n cap) := hide (by
              cases r with
              | zero => exact htr.elim
              | succ r => obtain ⟨_, _, a, cap, rfl, _⟩ := htr; exact ⟨_, _, _, rfl⟩)
            obtain ⟨sa, sc, sn, rfl⟩ := unhide es2
            obtain ⟨W3, hW3⟩ : ∃ W, W = w3.alloc (.cells (row8 Y (.slice sa sn sc)) 47) := ⟨_, rfl⟩
            have b3 : Below w3.heap.size w3 W3 := by rw [hW3]; exact bAl (Below.refl _ _) _
            have HB3 := hide hb3
            have HTR := hide htr
            have ha3 : at2 ≤ len := by rw [(unhide HS).1]; exact ha2
            have sz3 : W3.heap.size = w3.heap.size + 1 := by rw [hW3]; simp
            have HX3 := hide (((unhide hx).keep hb3).keep b3)
            have K3 := show RowIs W3 w3.heap.size (row8 Y (.slice sa sn sc)) 47 by rw [hW3]; exact RowIs.new _ _ _
            have t1 := hide ((own_keepT (own_keepT (unhide hown) hb3) b3).alloc (.cells (row8 Y (.slice sa sn sc)) 47))
            have t2 := hide (cell_four_new W3 (enc8 Y (.slice sa sn sc)) 47)
            have T3 : Hid (∀ u ∈ enc8 Y (.slice sa sn sc), u.oneCell' = true) := hide (fun u hu => by simp [enc8] at hu; rcases hu with rfl | rfl | rfl | rfl | rfl | rfl | rfl | rfl <;> rfl)
            have T4 : Hid (W2.heap.size ≤ (W3.alloc (.cells (row8 Y (.slice sa sn sc)) 47)).heap.size) := hide (by have := hb3.size; simp; omega)
            have t5 : (k + 1) * 104 ≤ 140737488355328 := by omega
            have lt := hide (fun j hj => (unhide hown).lt j hj)
            have HY := hide hY
            have HW3 := hide hW3.symm
            have SZ3 := hide sz3
            clear hg q hb3 htr es2 x6 hown hkids hY hW3 b3 sz3
            iterate 20 (try (first | go_values | go_skip | go_guarded | go_step | go_upon | go_simp))
            rw [unhide HW3]
            have k0 := K3.at (o := 0) (v := .int .i64 Y.f0) rfl
            have k1 := K3.at (o := 1) (v := .string Y.f1) rfl
            have k2 := K3.at (o := 2) (v := .int .i64 Y.f2) rfl
            have k3 := K3.at (o := 3) (v := .int .i64 Y.f3) rfl
            have k4 := K3.at (o := 4) (v := .string Y.f4) rfl
            have k5 := K3.at (o := 5) (v := .string Y.f5) rfl
            have k6 := K3.at (o := 6) (v := .int .i64 Y.f6) rfl
            have k7 := K3.at (o := 7) (v := .slice sa sn sc) rfl
            have x7 := (unhide HX3).at (o := 7) (v := .slice a1 k c1) rfl
            clear K3
            go_wp2_with (at_builtin; refine wpList_append_own_at _ rfl _ _ 45 rfl W2.heap.size 47 i0 _ 8 104 Tryz.underlying45 hi hz0 hz1 hz2 rfl (by decide) _ _ _ rfl (unhide t1) ⟨_, 0, none⟩ 1 1 (enc8 Y (.slice sa sn sc)) rfl rfl (unhide t2) (unhide T3) (by unfold maxLen; omega) t5 (unhide T4) ?_; intro v4 w4 hown4 hgrow4 _ hat4; have X4 := hide (((unhide HX3).keep (bAl (Below.refl _ _) (.cells (row8 Y (.slice sa sn sc)) 47))).grown hgrow4 (fun e => by have := (unhide lt _ e.symm).1; omega)); have g7 := (unhide X4).at (o := 7) (v := .slice a1 k c1) rfl; have g8 := (unhide X4).froz 7; obtain ⟨a4, c4, e4⟩ := own_sl hown4; subst e4)
            have szr : wr.heap.size ≤ w3.heap.size := (unhide HB3).size
            have gz : (W3.alloc (.cells (row8 Y (.slice sa sn sc)) 47)).heap.size ≤ w4.heap.size := hgrow4.size
            have gz' : w3.heap.size + 1 + 1 ≤ w4.heap.size := by have := unhide SZ3; simp at gz; omega
            have BW : Below w.heap.size w w4 := (((unhide hb).trans ((unhide HB3).mono (unhide hb).size)).trans (((bAl (Below.refl w3.heap.size w3) (.cells (row8 Y (.slice sa sn sc)) 47)).mono (Nat.le_trans (unhide hb).size szr)))) |> fun h => by
              rw [unhide HW3] at h
              exact (h.alloc (by have := unhide SZ3; have := (unhide hb).size; omega) _).grown hgrow4 (by have := (unhide hb).size; have := unhide SZ3; simp; omega) (fun j hj => by have := (unhide lt j hj).1; omega)
            refine ⟨⟨k + 1, at2, ps ++ [(t, .slice sa sn sc)], .slice a4 (k + 1) c4, by omega, ha3, by go_num, rfl, hide ?_, hide ?_, hide ?_, hide ?_, hide ?_, hide ?_, ?_⟩, by simp [Go.RowKit.intOf]; omega⟩
            · refine RowIs.setOther ?_ _ (by omega)
              rw [← unhide HW3] at hgrow4
              exact ((((unhide hz).keep (unhide HB3)).keep (bAl (Below.refl _ _) _)).keep (bAl (Below.refl _ _) _)).grown hgrow4 (fun e => by have := (unhide lt _ e.symm).1; omega)
            · have := (unhide X4).set 7 (.slice a4 (k + 1) c4)
              exact this
            · rw [encs8_snoc, unhide HY]
              exact own_set hown4 (fun g e => by have := (hown4.lt g e).1; omega)
            · rw [← unhide HW3] at hgrow4 hat4
              have fl : ps.length = k := by have := (unhide ks).2.1; simp at this; omega
              exact MadeY.next fl (unhide hmade) (unhide HB3) (unhide HTR) hsz hgrow4 (fun g hg => (unhide lt g hg).2) hat4 bl
            · have := unhide ks
              simpa using this
            · exact BW.setCell (by simp) _
            · simp [World.setCell]; omega
        · have ek : k = n := by omega
          subst ek
          have fl : ps.length = k := by have := (unhide hkids).2.1; simpa using this
          have ko := hide (unhide TO _ _ ((unhide hkids).done))
          have tr := hide (MadeY.tree (x := X) (unhide hmade) (by rw [fl]; exact unhide hown) (by rw [unhide X6, fl]) (by omega))
          obtain ⟨a1, c1, e1⟩ := own_sl (unhide hown)
          subst e1
          have X3 := unhide hx
          have k0 := X3.at (o := 0) (v := .int .i64 X.f0) rfl
          have k1 := X3.at (o := 1) (v := .string X.f1) rfl
          have k2 := X3.at (o := 2) (v := .int .i64 X.f2) rfl
          have k3 := X3.at (o := 3) (v := .int .i64 X.f3) rfl
          have k4 := X3.at (o := 4) (v := .string X.f4) rfl
          have k5 := X3.at (o := 5) (v := .string X.f5) rfl
          have k6 := X3.at (o := 6) (v := .int .i64 X.f6) rfl
          have k7 := X3.at (o := 7) (v := .slice a1 k c1) rfl
          have Z3 := unhide hz
          have j0 := Z3.at (o := 0) (v := .int .i64 0) rfl
          have j1 := Z3.at (o := 1) (v := .string ⟨#[]⟩) rfl
          have j2 := Z3.at (o := 2) (v := .int .i64 0) rfl
          have j3 := Z3.at (o := 3) (v := .int .i64 0) rfl
          have j4 := Z3.at (o := 4) (v := .string ⟨#[]⟩) rfl
          have j5 := Z3.at (o := 5) (v := .string ⟨#[]⟩) rfl
          have j6 := Z3.at (o := 6) (v := .int .i64 0) rfl
          have j7 := Z3.at (o := 7) (v := .slice none 0 0) rfl
          have y0 := Z3.froz 0
          have y1 := Z3.froz 1
          have y2 := Z3.froz 2
          have y3 := Z3.froz 3
          have y4 := Z3.froz 4
          have y5 := Z3.froz 5
          have y6 := Z3.froz 6
          have y7 := Z3.froz 7
          have HL := hide (unhide HS).1
          rw [unhide X6] at k6
          have ex : Hid (agg8 (ET.node X (ps.map (·.1))).n (.slice a1 k c1) = .agg #[.int .i64 X.f0, .string X.f1, .int .i64 X.f2, .int .i64 X.f3, .string X.f4, .string X.f5, .int .i64 (k : Int), .slice a1 k c1]) := hide (by simp [ET.n, unhide X6])
          clear Z3 X3 x6 hmade hown hkids fl
          go_wp2_with fail
          refine bodyPost_ret (v := .tuple #[.agg #[.int .i64 X.f0, .string X.f1, .int .i64 X.f2, .int .i64 X.f3, .string X.f4, .string X.f5, .int .i64 (k : Int), .slice a1 k c1], .int .i64 (at' : Int)]) (by simp [results, Tryz.results28, go_sem, j0, j1, j2, j3, j4, j5, j6, j7]) rfl ⟨.inr ⟨.node X (ps.map (·.1)), at', .slice a1 k c1, unhide ko, by rw [← unhide HL]; exact hat', by rw [unhide ex], ?_⟩, ?_⟩
          · refine ((unhide tr).keptY ?_).low (by omega)
            (repeat (refine KeptY.set ?_ _ _ _ (by omega)))
            exact KeptY.refl _ _
          · (repeat (refine Below.setCell ?_ (by simp) _))
            exact unhide hb
end Go.Proofs.YteaidfighimoiaaGreat.V
/- spec.l10Arity, l10Vars, l3Has; l10Right. -/
namespace Go.Proofs.YteaidfighimoiaaGreat.V
open Go.RowKit Go.Maps

theorem ret_intY {a b : Int} (h : a = b) : Ending.returned (.int .i64 b) = .returned (.int .i64 a) := by rw [h]

set_option maxHeartbeats 1000000 in
theorem l10Arity_any (k : Int) (w : World) :
    Calls Tryz.prog 48 #[.int .i64 k] w fun e w' => e = .returned (.int .i64 (ari k)) ∧ w = w' := by
  by_cases h : k = 1 ∨ k = 3
  · have e : Hid (ari k = 0) := hide (by unfold ari; rw [if_pos h])
    rcases h with rfl | rfl
    all_goals go_enter Tryz.func48, Tryz.ntmps48
    all_goals go_wp2_with fail
    all_goals go_ret
    all_goals exact ⟨ret_intY (unhide e), rfl⟩
  by_cases h2 : k = 2
  · have e : Hid (ari k = -2) := hide (by unfold ari; rw [if_neg h, if_pos h2])
    subst h2
    clear h
    go_enter Tryz.func48, Tryz.ntmps48
    go_wp2_with fail
    go_ret
    exact ⟨ret_intY (unhide e), rfl⟩
  by_cases h3 : k = 4 ∨ k = 5 ∨ k = 6 ∨ k = 7 ∨ k = 20 ∨ k = 21
  · have e : Hid (ari k = 1) := hide (by unfold ari; rw [if_neg h, if_neg h2, if_pos h3])
    clear h h2
    rcases h3 with rfl | rfl | rfl | rfl | rfl | rfl
    all_goals go_enter Tryz.func48, Tryz.ntmps48
    all_goals go_wp2_with fail
    all_goals go_ret
    all_goals exact ⟨ret_intY (unhide e), rfl⟩
  by_cases h4 : k = 10
  · have e : Hid (ari k = 3) := hide (by unfold ari; rw [if_neg h, if_neg h2, if_neg h3, if_pos h4])
    subst h4
    clear h h2 h3
    go_enter Tryz.func48, Tryz.ntmps48
    go_wp2_with fail
    go_ret
    exact ⟨ret_intY (unhide e), rfl⟩
  have e : Hid (ari k = if 8 ≤ k ∧ k ≤ 19 then 2 else -1) := hide (by unfold ari; rw [if_neg h, if_neg h2, if_neg h3, if_neg h4])
  simp only [not_or] at h h3
  obtain ⟨a1, a3⟩ := h
  obtain ⟨b4, b5, b6, b7, b20, b21⟩ := h3
  by_cases h5 : 8 ≤ k ∧ k ≤ 19
  · rw [if_pos h5] at e
    obtain ⟨g1, g2⟩ := h5
    go_enter Tryz.func48, Tryz.ntmps48
    go_wp2_with fail
    go_ret
    exact ⟨ret_intY (unhide e), rfl⟩
  · rw [if_neg h5] at e
    by_cases g1 : 8 ≤ k
    · have g2 : ¬ k ≤ 19 := fun h => h5 ⟨g1, h⟩
      clear h5
      go_enter Tryz.func48, Tryz.ntmps48
      go_wp2_with fail
      go_ret
      exact ⟨ret_intY (unhide e), rfl⟩
    · clear h5
      go_enter Tryz.func48, Tryz.ntmps48
      go_wp2_with fail
      go_ret
      exact ⟨ret_intY (unhide e), rfl⟩

theorem str_neY {a b : ByteArray} (h : ¬ a = b) : (ByteArray.toList a == ByteArray.toList b) = false := by
  have : ¬ a.toList = b.toList := fun e => h (by
    rw [ByteArray.toList_eq, ByteArray.toList_eq] at e
    exact Go.WideShapes.bytes_inj e)
  simpa using this
theorem str_eqY (a : ByteArray) : (ByteArray.toList a == ByteArray.toList a) = true := by simp

set_option maxHeartbeats 400000 in
theorem l3Has_anyY (a : Option Addr) (len cap : Nat) (l : List ByteArray) (s : ByteArray) (w : World) (hl : len ≤ 1000000) (hs : SlS w a len l) :
    Calls Tryz.prog 49 #[.slice a len cap, .string s] w fun e w' => RetB e (s ∈ l) ∧ w = w' := by
  have HS := hide hs
  clear hs
  go_enter Tryz.func49, Tryz.ntmps49
  go_wp2_with fail
  go_loopw [9] (fun i wx => ∃ k : Nat, k ≤ len ∧ i = .int .i64 k ∧ Hid (¬ s ∈ l.take k) ∧ wx = w) (fun i _ => len - (Go.RowKit.intOf i).toNat)
  case atStart => exact ⟨0, Nat.zero_le _, rfl, hide (by simp), rfl⟩
  case round =>
    obtain ⟨k, hk, rfl, hn, rfl⟩ := hrel
    by_cases hlt : k < len
    · have hk' : k < l.length := by rw [← (unhide HS).1]; exact hlt
      obtain ⟨b, off, rfl, hrow⟩ := (unhide HS).at hlt
      have c0 := hrow.c k hk'
      have zk := hrow.z
      have eY : Hid (l[k] = s → s ∈ l) := hide (fun e => e ▸ List.getElem_mem hk')
      have eN : Hid (¬ l[k] = s → ¬ s ∈ l.take (k + 1)) := hide (fun e h => by
        rw [List.take_succ_eq_append_getElem hk', List.mem_append, List.mem_singleton] at h
        rcases h with h | h
        · exact unhide hn h
        · exact e h.symm)
      clear hrow
      generalize l[k] = A at c0 eY eN
      by_cases he : A = s
      · replace eY := hide (unhide eY he)
        subst he
        clear eN
        go_wp2_with fail
        go_ret
        exact ⟨retB (b := true) ⟨fun _ => unhide eY, fun _ => rfl⟩, rfl⟩
      · replace eN := hide (unhide eN he)
        have hne := str_neY he
        clear eY he
        go_wp2_with fail
        exact ⟨⟨k + 1, by omega, by go_num, eN, trivial⟩, by simp [Go.RowKit.intOf]; omega⟩
    · have hN : Hid (¬ s ∈ l) := hide (fun h => unhide hn (by rw [List.take_of_length_le (by have := (unhide HS).1; omega)]; exact h))
      go_wp2_with fail
      go_ret
      exact ⟨retB (b := false) ⟨fun h => (by cases h), fun h => absurd h (unhide hN)⟩, rfl⟩


theorem l10Vars_any (w : World) : Calls Tryz.prog 50 #[] w fun e w' => (∃ a cap, e = .returned (.slice a 4 cap) ∧ SlS w' a 4 [⟨#[112, 114, 105, 110, 99, 105, 112, 97, 108]⟩, ⟨#[97, 99, 116, 105, 111, 110]⟩, ⟨#[114, 101, 115, 111, 117, 114, 99, 101]⟩, ⟨#[99, 111, 110, 116, 101, 120, 116]⟩]) ∧ Below w.heap.size w w' := by
  go_enter Tryz.func50, Tryz.ntmps50
  go_wp2_with fail
  go_ret
  refine ⟨⟨_, _, rfl, rfl, .inr ⟨_, _, rfl, ?_⟩⟩, bAl (Below.refl _ _) _⟩
  have R := RowIs.new w #[.string ⟨#[112, 114, 105, 110, 99, 105, 112, 97, 108]⟩, .string ⟨#[97, 99, 116, 105, 111, 110]⟩, .string ⟨#[114, 101, 115, 111, 117, 114, 99, 101]⟩, .string ⟨#[99, 111, 110, 116, 101, 120, 116]⟩] 9
  refine ⟨R.lt, fun i hi => ?_⟩
  match i, hi with
  | 0, _ => exact R.at rfl
  | 1, _ => exact R.at rfl
  | 2, _ => exact R.at rfl
  | 3, _ => exact R.at rfl
theorem var_mem (s : ByteArray) : s ∈ [(⟨#[112, 114, 105, 110, 99, 105, 112, 97, 108]⟩ : ByteArray), ⟨#[97, 99, 116, 105, 111, 110]⟩, ⟨#[114, 101, 115, 111, 117, 114, 99, 101]⟩, ⟨#[99, 111, 110, 116, 101, 120, 116]⟩] ↔ varP s := by
  have h : ∀ l : List UInt8, s = ⟨l.toArray⟩ ↔ s.toList = l := by
    intro l
    constructor
    · rintro rfl; rw [ByteArray.toList_eq]
    · intro e; rw [ByteArray.toList_eq] at e; cases s with
      | mk d => simp at e; subst e; rfl
  unfold varP
  simp only [List.mem_cons, List.not_mem_nil, or_false]
  rw [← h, ← h, ← h, ← h]

/-- All nodes of a tree. -/
inductive AllY (P : ExprT → Prop) : ET → Prop
  | mk {x : ExprT} {ks : List ET} (h : P x) (hk : ∀ k ∈ ks, AllY P k) : AllY P (.node x ks)
theorem AllY.out {P : ExprT → Prop} {x : ExprT} {ks : List ET} (h : AllY P (.node x ks)) : P x ∧ ∀ k ∈ ks, AllY P k := by
  cases h with
  | mk h hk => exact ⟨h, hk⟩
theorem takeK_all {P : ExprT → Prop} {f : List ExprT → Option (ET × List ExprT)} (hf : ∀ l t l', f l = some (t, l') → (∀ q ∈ l, P q) → AllY P t ∧ ∀ q ∈ l', P q) : ∀ (n : Nat) (l : List ExprT) (ks : List ET) (l' : List ExprT), takeK f n l = some (ks, l') → (∀ q ∈ l, P q) → (∀ k ∈ ks, AllY P k) ∧ ∀ q ∈ l', P q
  | 0, l, ks, l', h, hp => by simp [takeK] at h; obtain ⟨rfl, rfl⟩ := h; exact ⟨by simp, hp⟩
  | n + 1, l, ks, l', h, hp => by
    simp only [takeK, Option.bind_eq_some_iff, Option.map_eq_some_iff, Prod.exists, Prod.mk.injEq] at h
    obtain ⟨t, r1, h1, ts, r2, h2, rfl, rfl⟩ := h
    obtain ⟨a1, a2⟩ := hf _ _ _ h1 hp
    obtain ⟨b1, b2⟩ := takeK_all hf n _ _ _ h2 a2
    exact ⟨by simpa using ⟨a1, b1⟩, b2⟩
theorem takeT_all {P : ExprT → Prop} : ∀ (r : Nat) (l : List ExprT) (t : ET) (l' : List ExprT), takeT r l = some (t, l') → (∀ q ∈ l, P q) → AllY P t ∧ ∀ q ∈ l', P q
  | 0, l, t, l', h, _ => by simp [takeT] at h
  | r + 1, [], t, l', h, _ => by simp [takeT] at h
  | r + 1, x :: l, t, l', h, hp => by
    simp only [takeT] at h
    split at h
    · cases h
    · obtain ⟨⟨ks, q⟩, h1, h2⟩ := Option.map_eq_some_iff.1 h
      obtain ⟨rfl, rfl⟩ := by simpa using h2
      obtain ⟨a1, a2⟩ := takeK_all (takeT_all r) _ _ _ _ h1 (fun q hq => hp q (by simp [hq]))
      exact ⟨.mk (hp x (by simp)) a1, a2⟩
theorem right_iff {x : ExprT} {ks : List ET} (h6 : x.f6 = (ks.length : Int)) (h10 : ks.length ≤ 10) : Right (.node x ks) ↔ (ari x.f0 ≠ -1 ∧ (0 ≤ ari x.f0 → (ks.length : Int) = ari x.f0) ∧ (x.f0 = 1 ∨ zEx x)) ∧ txtP x ∧ ∀ k ∈ ks, Right k ∧ (x.f0 ≠ 2 ∨ k.n.f0 = 1) := by
  have hk : ari x.f0 ≠ -1 → (kidP x ↔ (0 ≤ ari x.f0 → (ks.length : Int) = ari x.f0)) := by
    intro hne
    unfold kidP
    by_cases h2 : x.f0 = 2
    · rw [if_pos h2, h2]
      constructor
      · intro _ h; simp [ari] at h
      · intro _; omega
    · rw [if_neg h2, h6]
      have : 0 ≤ ari x.f0 := by
        unfold ari at hne ⊢
        repeat' split
        all_goals (first | omega | simp_all)
      exact ⟨fun h _ => h, fun h => h this⟩
  constructor
  · intro h
    obtain ⟨⟨a1, a2, a3, a4⟩, b, c⟩ := h.out
    exact ⟨⟨a1, (hk a1).1 a2, a3⟩, a4, fun k hk => ⟨b k hk, (Classical.em (x.f0 = 2)).symm.imp_right fun h => c h k hk⟩⟩
  · rintro ⟨⟨a1, a2, a3⟩, a4, b⟩
    exact .mk ⟨a1, (hk a1).2 a2, a3, a4⟩ (fun k hk => (b k hk).1) (fun h k hk => (b k hk).2.resolve_left (fun h' => h' h))
end Go.Proofs.YteaidfighimoiaaGreat.V
