/- Documents: spec.l20Tree, GoodDoc. -/
import Derived.Test.YtdhpfhpegaekpaaDoorELu
namespace Go.Proofs.YtdhpfhpegaekpaaDoor.V
set_option linter.unusedSimpArgs false
set_option linter.unusedVariables false
set_option maxRecDepth 20000
open Go.RowKit Go.Maps

theorem trD_zero (r : Nat) (w : World) (lo : Nat) : TrD (r + 1) w lo (.slice none 0 0) (.node zX 0 []) := ⟨rfl, Nat.zero_le _, none, 0, rfl, .inl rfl⟩
def TreeO (w' : World) (lo : Nat) (l : List ElemE) (e : Ending) : Prop :=
  (¬ GDoc (l.map (·.t)) ∧ ∃ X k sa sn sc, e = .returned (.tuple #[agg7 X k (.slice sa sn sc), .bool false]) ∧ ∃ t : DT, t.n = X ∧ t.at = k ∧ TrD 12 w' lo (.slice sa sn sc) t) ∨
  (GDoc (l.map (·.t)) ∧ ∃ t sa sn sc, e = .returned (.tuple #[agg7 t.n t.at (.slice sa sn sc), .bool true]) ∧ takeD l 12 0 = some (t, l.length) ∧ TrD 12 w' lo (.slice sa sn sc) t)
set_option maxHeartbeats 4000000 in
theorem l20Tree_any (h : Hd) (l : List ElemE) (w : World) (hl : l.length ≤ maxLen) (hs : SqElemE w 0 h l) (hn : ∀ x ∈ l, ElemN x.t) :
    Calls Tryd.prog 13 #[.slice h.a h.len h.cap] w fun e w' => TreeO w' w.heap.size l e ∧ Below w.heap.size w w' := by
  have HL := hide hs.1
  have HN := hide hn
  obtain ⟨a, len, cap⟩ := h
  simp only at HL
  have lm : len ≤ maxLen := by rw [unhide HL]; exact hl
  unfold maxLen at lm
  obtain ⟨W1, hW1⟩ : ∃ W, W = w.alloc (.cells #[.string ⟨#[]⟩, .string ⟨#[]⟩, .slice none 0 0, .slice none 0 0, .int .i64 0, .int .i64 0, .slice none 0 0] 38) := ⟨_, rfl⟩
  have b1 : Below w.heap.size w W1 := by rw [hW1]; exact bAl (Below.refl _ _) _
  have R1 := hide (show RowIs W1 w.heap.size #[.string ⟨#[]⟩, .string ⟨#[]⟩, .slice none 0 0, .slice none 0 0, .int .i64 0, .int .i64 0, .slice none 0 0] 38 by rw [hW1]; exact RowIs.new _ _ _)
  have HW1 := hide hW1.symm
  have HS := hide (hs.keep b1)
  have B1 := hide b1
  have z1 : W1.heap.size = w.heap.size + 1 := by rw [hW1]; simp
  have k0 := (unhide R1).at (o := 0) (v := .string ⟨#[]⟩) rfl
  have k1 := (unhide R1).at (o := 1) (v := .string ⟨#[]⟩) rfl
  have k2 := (unhide R1).at (o := 2) (v := .slice none 0 0) rfl
  have k3 := (unhide R1).at (o := 3) (v := .slice none 0 0) rfl
  have k4 := (unhide R1).at (o := 4) (v := .int .i64 0) rfl
  have k5 := (unhide R1).at (o := 5) (v := .int .i64 0) rfl
  have k6 := (unhide R1).at (o := 6) (v := .slice none 0 0) rfl
  have y0 := (unhide R1).froz 0
  have y1 := (unhide R1).froz 1
  have y2 := (unhide R1).froz 2
  have y3 := (unhide R1).froz 3
  have y4 := (unhide R1).froz 4
  have y5 := (unhide R1).froz 5
  have y6 := (unhide R1).froz 6
  have kz := (unhide R1).lt
  by_cases h1 : len < 1 ∨ 60 < len
  · have no : Hid (¬ GDoc (l.map (·.t))) := hide (by
      rintro ⟨g1, g2, D, g3, g4⟩
      rw [List.length_map, ← unhide HL] at g1 g3
      rcases h1 with h1 | h1
      · obtain rfl : len = 0 := by omega
        have := g3.same.1
        cases this
      · omega)
    clear hW1 b1 hs hn HN HS
    by_cases h2 : len < 1
    · clear h1
      go_enter Tryd.func13, Tryd.ntmps13
      go_upto_region 1 with fail
      refine wp_worldD (unhide HW1) ?_
      go_wp2_with fail
      refine bodyPost_ret (v := .tuple #[agg7 zX 0 (.slice none 0 0), .bool false]) (by simp [results, Tryd.results13, go_sem, k0, k1, k2, k3, k4, k5, k6]) rfl ⟨.inl ⟨unhide no, zX, 0, none, 0, 0, rfl, .node zX 0 [], rfl, rfl, trD_zero _ _ _⟩, ?_⟩
      (repeat (refine Below.setCell ?_ (by simp) _))
      exact unhide B1
    · have h3 : 60 < len := h1.resolve_left h2
      clear h1
      go_enter Tryd.func13, Tryd.ntmps13
      go_upto_region 1 with fail
      refine wp_worldD (unhide HW1) ?_
      go_wp2_with fail
      refine bodyPost_ret (v := .tuple #[agg7 zX 0 (.slice none 0 0), .bool false]) (by simp [results, Tryd.results13, go_sem, k0, k1, k2, k3, k4, k5, k6]) rfl ⟨.inl ⟨unhide no, zX, 0, none, 0, 0, rfl, .node zX 0 [], rfl, rfl, trD_zero _ _ _⟩, ?_⟩
      (repeat (refine Below.setCell ?_ (by simp) _))
      exact unhide B1
  have h2 : ¬ len < 1 := fun h => h1 (.inl h)
  have h3 : ¬ 60 < len := fun h => h1 (.inr h)
  have h60 : l.length ≤ 60 := by rw [← unhide HL]; omega
  clear hW1 b1 hs hn h1
  go_enter Tryd.func13, Tryd.ntmps13
  go_upto_region 1 with fail
  refine wp_worldD (unhide HW1) ?_
  clear HW1
  go_wp2_with fail
  clear k0 k1 k2 k3 k4 k5 k6 y0 y1 y2 y3 y4 y5 y6 kz
  go_loopw [5, 19] (fun _ q w' => ∃ k : Nat, k ≤ len ∧ q = .int .i64 k ∧ Hid (Below W1.heap.size W1 w') ∧ Hid (∀ j (h : j < l.length), j < k → RightE (l[j]).t)) (fun _ q _ => len - (Go.RowKit.intOf q).toNat)
  case atStart => exact ⟨0, Nat.zero_le _, rfl, hide (Below.refl _ _), hide (fun j _ h => absurd h (Nat.not_lt_zero _))⟩
  case round =>
    obtain ⟨k, hk9, rfl, hB, hG⟩ := hrel
    by_cases hlt : k < len
    · obtain ⟨b, off, ea, hrow⟩ := ((unhide HS).keep (unhide hB)).at hlt
      simp only at ea
      subst ea
      have hk' : k < l.length := by rw [← unhide HL]; exact hlt
      have c0 := hrow.c0 k hk'
      have c1 := hrow.c1 k hk'
      have c2 := hrow.c2 k hk'
      have c3 := hrow.c3 k hk'
      have c4 := hrow.c4 k hk'
      have hzb := hrow.z
      have hm := ((unhide HS).keep (unhide hB)).2.2 _ (List.getElem_mem hk')
      have hnn := unhide HN _ (List.getElem_mem hk')
      have GN := hide (show RightE (l[k]).t → ∀ j (h : j < l.length), j < k + 1 → RightE (l[j]).t from fun g j hj hjk => by
        by_cases e : j = k
        · subst e; exact g
        · exact unhide hG j hj (by omega))
      have NO := hide (show ¬ RightE (l[k]).t → ¬ GDoc (l.map (·.t)) from fun g d => g (d.2.1 _ (List.mem_map.2 ⟨l[k], List.getElem_mem hk', rfl⟩)).r)
      clear hrow
      generalize l[k] = x at *
      obtain ⟨W3, hW3⟩ : ∃ W, W = wr.alloc (.cells #[.string x.t.f0, .string x.t.f1, .slice x.h2.a x.h2.len x.h2.cap, .slice x.h3.a x.h3.len x.h3.cap, .int .i64 x.t.f4] 35) := ⟨_, rfl⟩
      have b3 : Below wr.heap.size wr W3 := by rw [hW3]; exact bAl (Below.refl _ _) _
      have R3 := hide (show RowIs W3 wr.heap.size #[.string x.t.f0, .string x.t.f1, .slice x.h2.a x.h2.len x.h2.cap, .slice x.h3.a x.h3.len x.h3.cap, .int .i64 x.t.f4] 35 by rw [hW3]; exact RowIs.new _ _ _)
      have HW3 := hide hW3.symm
      have B3 := hide (bTr (unhide hB) b3)
      have q := hide (sRight_any x W3 hnn (hm.keep b3))
      clear hW3 b3 hm hnn
      go_upto_region 6 with fail
      refine wp_worldD (unhide HW3) ?_
      clear c0 c1 c2 c3 c4 hzb HW3
      have e0 := (unhide R3).at (o := 0) (v := .string x.t.f0) rfl
      have e1 := (unhide R3).at (o := 1) (v := .string x.t.f1) rfl
      have e2 := (unhide R3).at (o := 2) (v := .slice x.h2.a x.h2.len x.h2.cap) rfl
      have e3 := (unhide R3).at (o := 3) (v := .slice x.h3.a x.h3.len x.h3.cap) rfl
      have e4 := (unhide R3).at (o := 4) (v := .int .i64 x.t.f4) rfl
      have ez := (unhide R3).lt
      go_wp2_with fail
      refine (unhide q).mono ?_
      rintro e w4 ⟨⟨b4, rfl, hb4⟩, bb⟩
      have H4 := hide hb4
      have B4 := hide (bTr (unhide B3) bb)
      clear e0 e1 e2 e3 e4 ez hb4 bb q R3
      cases b4 with
      | false =>
        have no := hide (unhide NO (fun g => by have := (unhide H4).2 g; cases this))
        have R4 := hide ((unhide R1).keep (unhide B4))
        have B14 := hide (bTr (unhide B1) (unhide B4))
        have k0 := (unhide R4).at (o := 0) (v := .string ⟨#[]⟩) rfl
        have k1 := (unhide R4).at (o := 1) (v := .string ⟨#[]⟩) rfl
        have k2 := (unhide R4).at (o := 2) (v := .slice none 0 0) rfl
        have k3 := (unhide R4).at (o := 3) (v := .slice none 0 0) rfl
        have k4 := (unhide R4).at (o := 4) (v := .int .i64 0) rfl
        have k5 := (unhide R4).at (o := 5) (v := .int .i64 0) rfl
        have k6 := (unhide R4).at (o := 6) (v := .slice none 0 0) rfl
        have y0 := (unhide R4).froz 0
        have y1 := (unhide R4).froz 1
        have y2 := (unhide R4).froz 2
        have y3 := (unhide R4).froz 3
        have y4 := (unhide R4).froz 4
        have y5 := (unhide R4).froz 5
        have y6 := (unhide R4).froz 6
        have kz := (unhide R4).lt
        go_wp2_with fail
        refine bodyPost_ret (v := .tuple #[agg7 zX 0 (.slice none 0 0), .bool false]) (by simp [results, Tryd.results13, go_sem, k0, k1, k2, k3, k4, k5, k6]) rfl ⟨.inl ⟨unhide no, zX, 0, none, 0, 0, rfl, .node zX 0 [], rfl, rfl, trD_zero _ _ _⟩, ?_⟩
        (repeat (refine Below.setCell ?_ (by simp) _))
        exact unhide B14
      | true =>
        have hN := hide (unhide GN ((unhide H4).1 (by trivial)))
        go_wp2_with fail
        exact ⟨⟨k + 1, by omega, by go_num, B4, hN⟩, by simp [Go.RowKit.intOf]; omega⟩
    · have em : k = len := by omega
      subst em
      have RA := hide (show ∀ x ∈ l, RightE x.t from fun x hx => by
        obtain ⟨j, hj, rfl⟩ := List.mem_iff_getElem.1 hx
        exact unhide hG j hj (by rw [unhide HL]; exact hj))
      have q := hide (l20Take_any 12 a k cap l 0 1 wr (by omega) (by omega) (by omega) ((unhide HS).keep (unhide hB)) (Nat.zero_le _))
      have IFF := hide (gdoc_take h60 (unhide RA))
      clear hG
      go_wp2_with fail
      refine (unhide q).mono ?_
      rintro e w4 ⟨ht, bb⟩
      have B4 := hide (bTr (unhide hB) bb)
      have SZ := hide (show w.heap.size + 1 ≤ wr.heap.size by have := (unhide hB).size; omega)
      have WR := hide bb
      clear bb q hB
      rcases ht with ⟨hg, rfl⟩ | ⟨t, k', s, hg, hk2, rfl, htr⟩
      · have no := hide (show ¬ GDoc (l.map (·.t)) from fun g => by
          obtain ⟨t, ht⟩ := (unhide IFF).1 g
          rw [hg] at ht
          cases ht)
        clear hg
        obtain ⟨W5, hW5⟩ : ∃ W, W = w4.alloc (.cells #[.string ⟨#[]⟩, .string ⟨#[]⟩, .slice none 0 0, .slice none 0 0, .int .i64 0, .int .i64 0, .slice none 0 0] 38) := ⟨_, rfl⟩
        have b5 : Below w4.heap.size w4 W5 := by rw [hW5]; exact bAl (Below.refl _ _) _
        have R4 := hide ((unhide R1).keep (bTr (unhide B4) b5))
        have B14 := hide (bTr (unhide B1) (bTr (unhide B4) b5))
        have K5 := hide (show RowIs W5 w4.heap.size #[.string ⟨#[]⟩, .string ⟨#[]⟩, .slice none 0 0, .slice none 0 0, .int .i64 0, .int .i64 0, .slice none 0 0] 38 by rw [hW5]; exact RowIs.new _ _ _)
        have HW5 := hide hW5.symm
        clear hW5 b5
        have d : ((-1 : Int) == (k : Int)) = false := by simp
        go_upto_region 10 with fail
        refine wp_worldD (unhide HW5) ?_
        clear HW5
        have m0 := (unhide K5).at (o := 0) (v := .string ⟨#[]⟩) rfl
        have m1 := (unhide K5).at (o := 1) (v := .string ⟨#[]⟩) rfl
        have m2 := (unhide K5).at (o := 2) (v := .slice none 0 0) rfl
        have m3 := (unhide K5).at (o := 3) (v := .slice none 0 0) rfl
        have m4 := (unhide K5).at (o := 4) (v := .int .i64 0) rfl
        have m5 := (unhide K5).at (o := 5) (v := .int .i64 0) rfl
        have m6 := (unhide K5).at (o := 6) (v := .slice none 0 0) rfl
        have mz := (unhide K5).lt
        have k0 := (unhide R4).at (o := 0) (v := .string ⟨#[]⟩) rfl
        have k1 := (unhide R4).at (o := 1) (v := .string ⟨#[]⟩) rfl
        have k2 := (unhide R4).at (o := 2) (v := .slice none 0 0) rfl
        have k3 := (unhide R4).at (o := 3) (v := .slice none 0 0) rfl
        have k4 := (unhide R4).at (o := 4) (v := .int .i64 0) rfl
        have k5 := (unhide R4).at (o := 5) (v := .int .i64 0) rfl
        have k6 := (unhide R4).at (o := 6) (v := .slice none 0 0) rfl
        have y0 := (unhide R4).froz 0
        have y1 := (unhide R4).froz 1
        have y2 := (unhide R4).froz 2
        have y3 := (unhide R4).froz 3
        have y4 := (unhide R4).froz 4
        have y5 := (unhide R4).froz 5
        have y6 := (unhide R4).froz 6
        have kz := (unhide R4).lt
        go_wp2_with fail
        refine bodyPost_ret (v := .tuple #[agg7 zX 0 (.slice none 0 0), .bool false]) (by simp [results, Tryd.results13, go_sem, k0, k1, k2, k3, k4, k5, k6]) rfl ⟨.inl ⟨unhide no, zX, 0, none, 0, 0, rfl, .node zX 0 [], rfl, rfl, trD_zero _ _ _⟩, ?_⟩
        (repeat (refine Below.setCell ?_ (by simp) _))
        exact unhide B14
      · obtain ⟨Y, hY⟩ : ∃ Y, t.n = Y := ⟨_, rfl⟩
        obtain ⟨ya, hya⟩ : ∃ ya, t.at = ya := ⟨_, rfl⟩
        rw [hY, hya]
        obtain ⟨sa, sc, sn, rfl⟩ : ∃ a cap n, s = .slice a n cap := by obtain ⟨_, _, a, cap, e, _⟩ := htr; exact ⟨_, _, _, e⟩
        obtain ⟨W5, hW5⟩ : ∃ W, W = w4.alloc (.cells (row7 Y ya (.slice sa sn sc)) 38) := ⟨_, rfl⟩
        have b5 : Below w4.heap.size w4 W5 := by rw [hW5]; exact bAl (Below.refl _ _) _
        have R4 := hide ((unhide R1).keep (bTr (unhide B4) b5))
        have B14 := hide (bTr (unhide B1) (bTr (unhide B4) b5))
        have K5 := hide (show RowIs W5 w4.heap.size (row7 Y ya (.slice sa sn sc)) 38 by rw [hW5]; exact RowIs.new _ _ _)
        have TR := hide (htr.keptD ((KeptD.refl wr.heap.size w4).below b5 (Nat.le_refl _)))
        have HG := hide hg
        have HY := hide hY
        have HYA := hide hya
        have HW5 := hide hW5.symm
        clear hW5 b5 htr hg hY hya
        go_upto_region 10 with fail
        refine wp_worldD (unhide HW5) ?_
        clear HW5
        have m0 := (unhide K5).at (o := 0) (v := .string Y.t.f0) rfl
        have m1 := (unhide K5).at (o := 1) (v := .string Y.t.f1) rfl
        have m2 := (unhide K5).at (o := 2) (v := .slice Y.h2.a Y.h2.len Y.h2.cap) rfl
        have m3 := (unhide K5).at (o := 3) (v := .slice Y.h3.a Y.h3.len Y.h3.cap) rfl
        have m4 := (unhide K5).at (o := 4) (v := .int .i64 Y.t.f4) rfl
        have m5 := (unhide K5).at (o := 5) (v := .int .i64 (ya : Int)) rfl
        have m6 := (unhide K5).at (o := 6) (v := .slice sa sn sc) rfl
        have mz := (unhide K5).lt
        have k0 := (unhide R4).at (o := 0) (v := .string ⟨#[]⟩) rfl
        have k1 := (unhide R4).at (o := 1) (v := .string ⟨#[]⟩) rfl
        have k2 := (unhide R4).at (o := 2) (v := .slice none 0 0) rfl
        have k3 := (unhide R4).at (o := 3) (v := .slice none 0 0) rfl
        have k4 := (unhide R4).at (o := 4) (v := .int .i64 0) rfl
        have k5 := (unhide R4).at (o := 5) (v := .int .i64 0) rfl
        have k6 := (unhide R4).at (o := 6) (v := .slice none 0 0) rfl
        have y0 := (unhide R4).froz 0
        have y1 := (unhide R4).froz 1
        have y2 := (unhide R4).froz 2
        have y3 := (unhide R4).froz 3
        have y4 := (unhide R4).froz 4
        have y5 := (unhide R4).froz 5
        have y6 := (unhide R4).froz 6
        have kz := (unhide R4).lt
        by_cases he : k' = k
        · subst he
          have d : ((k' : Int) == (k' : Int)) = true := by simp
          have yes := hide ((unhide IFF).2 ⟨t, by rw [← unhide HL]; exact unhide HG⟩)
          go_wp2_with fail
          refine bodyPost_ret (v := .tuple #[agg7 Y ya (.slice sa sn sc), .bool true]) (by simp [results, Tryd.results13, go_sem, k0, k1, k2, k3, k4, k5, k6]) rfl ⟨.inr ⟨unhide yes, t, sa, sn, sc, by rw [unhide HY, unhide HYA], by rw [unhide HG, unhide HL], ?_⟩, ?_⟩
          · have hlo : w.heap.size < wr.heap.size := by have h5 := unhide SZ; omega
            refine (TrD.low (lo' := w.heap.size) (lo := wr.heap.size) (by omega) (TrD.keptD ?_ (unhide TR)))
            (repeat (refine KeptD.set ?_ _ _ _ hlo))
            exact KeptD.refl _ _
          · (repeat (refine Below.setCell ?_ (by simp) _))
            exact unhide B14
        · have d : ((k' : Int) == (k : Int)) = false := by simp; omega
          have no := hide (show ¬ GDoc (l.map (·.t)) from fun g => by
            obtain ⟨t2, ht⟩ := (unhide IFF).1 g
            rw [unhide HG] at ht
            simp at ht
            have := unhide HL
            omega)
          go_wp2_with fail
          refine bodyPost_ret (v := .tuple #[agg7 Y ya (.slice sa sn sc), .bool false]) (by simp [results, Tryd.results13, go_sem, k0, k1, k2, k3, k4, k5, k6]) rfl ⟨.inl ⟨unhide no, Y, ya, sa, sn, sc, rfl, t, unhide HY, unhide HYA, ?_⟩, ?_⟩
          · have hlo : w.heap.size < wr.heap.size := by have h5 := unhide SZ; omega
            refine (TrD.low (lo' := w.heap.size) (lo := wr.heap.size) (by omega) (TrD.keptD ?_ (unhide TR)))
            (repeat (refine KeptD.set ?_ _ _ _ hlo))
            exact KeptD.refl _ _
          · (repeat (refine Below.setCell ?_ (by simp) _))
            exact unhide B14
theorem iGoodDoc_b (h : Hd) (xs : List ElemT) (w : World) (hn : ∀ x ∈ xs, ElemN x) (hl : xs.length ≤ maxLen) (hs : SqElem w 0 h xs) : Calls Tryd.prog 19 #[.slice h.a h.len h.cap] w fun e w' => RetB e (GDoc xs) ∧ Below w.heap.size w w' := iGoodDoc_n h xs w hl hs hn
end Go.Proofs.YtdhpfhpegaekpaaDoor.V
