/- FRt, FRu, one behind the other. -/
import Derived.Test.YteaidfighimoiaaGreatJ19
import Derived.Test.YteaidfighimoiaaGreatJ20
/- spec.l14Right. -/
namespace Go.Proofs.YteaidfighimoiaaGreat.V
open Go.RowKit Go.Maps

set_option maxRecDepth 20000 in
set_option maxHeartbeats 2000000 in
theorem right_lit (P : Prop) (w : World) (x : ExprT) (ks : List ET) (a : Option Addr) (cap : Nat)  (h1 : x.f0 = 1) (hP : Hid (P ↔ x.f2 = 1)) :
    Calls Tryz.prog 14 #[agg8 x (.slice a ks.length cap)] w fun e w' => RetB e P ∧ Below w.heap.size w w' := by
  obtain ⟨f0, f1, f2, f3, f4, f5, f6⟩ := x
  simp only at h1 hP
  subst h1
  by_cases h2 : f2 = 1
  · have yes := hide ((unhide hP).2 h2)
    subst h2
    go_enter Tryz.func14, Tryz.ntmps14
    go_wp2_with fail
    go_ret
    exact ⟨retB (b := true) ⟨fun _ => unhide yes, fun _ => rfl⟩, bAl (Below.refl _ _) _⟩
  · have no : Hid (¬ P) := hide (fun h => h2 ((unhide hP).1 h))
    have d : (f2 == 1) = false := by simpa using h2
    go_enter Tryz.func14, Tryz.ntmps14
    go_wp2_with fail
    go_ret
    exact ⟨retB (b := false) ⟨fun h => (by cases h), fun h => absurd h (unhide no)⟩, bAl (Below.refl _ _) _⟩
set_option maxRecDepth 20000 in
set_option maxHeartbeats 2000000 in
theorem right_get (P : Prop) (r : Nat) (w : World) (lo : Nat) (x : ExprT) (ks : List ET) (a : Option Addr) (cap : Nat)  (h : TrAt (r + 1) w lo (.slice a ks.length cap) (.node x ks)) (hf : Fit (.node x ks)) (h4 : x.f0 = 4) (hP : Hid (P ↔ PathT (.node x ks))) :
    Calls Tryz.prog 14 #[agg8 x (.slice a ks.length cap)] w fun e w' => RetB e P ∧ Below w.heap.size w w' := by
  have q := hide (fun (w' : World) (hb : Below w.heap.size w w') => l14Path_t h hf w' hb)
  simp only [ET.n] at q
  clear h hf
  obtain ⟨f0, f1, f2, f3, f4, f5, f6⟩ := x
  simp only at h4
  subst h4
  go_enter Tryz.func14, Tryz.ntmps14
  go_wp2_with fail
  refine (unhide q _ (bAl (Below.refl _ _) _)).mono ?_
  rintro e w1 ⟨⟨b, rfl, hb⟩, hb1⟩
  have HB := hide hb
  have B1 := hide (bTr (bAl (Below.refl w.heap.size w) _) hb1)
  clear hb hb1 q
  go_wp2_with fail
  go_ret
  exact ⟨retB ((unhide HB).trans (unhide hP).symm), unhide B1⟩
set_option maxRecDepth 20000 in
set_option maxHeartbeats 2000000 in
theorem right_none (P : Prop) (w : World) (x : ExprT) (ks : List ET) (a : Option Addr) (cap : Nat)  (n1 : x.f0 ≠ 1) (n4 : x.f0 ≠ 4) (n5 : x.f0 ≠ 5) (n6 : x.f0 ≠ 6) (n8 : x.f0 ≠ 8) (n9 : x.f0 ≠ 9) (n10 : x.f0 ≠ 10) (n21 : x.f0 ≠ 21) (n11 : x.f0 ≠ 11) (n12 : x.f0 ≠ 12) (n13 : x.f0 ≠ 13) (n17 : x.f0 ≠ 17) (n18 : x.f0 ≠ 18) (no : Hid (¬ P)) :
    Calls Tryz.prog 14 #[agg8 x (.slice a ks.length cap)] w fun e w' => RetB e P ∧ Below w.heap.size w w' := by
  obtain ⟨f0, f1, f2, f3, f4, f5, f6⟩ := x
  simp only at *
  have d1 : (f0 == 1) = false := by simpa using n1
  have d4 : (f0 == 4) = false := by simpa using n4
  have d5 : (f0 == 5) = false := by simpa using n5
  have d6 : (f0 == 6) = false := by simpa using n6
  have d8 : (f0 == 8) = false := by simpa using n8
  have d9 : (f0 == 9) = false := by simpa using n9
  have d10 : (f0 == 10) = false := by simpa using n10
  have d21 : (f0 == 21) = false := by simpa using n21
  have d11 : (f0 == 11) = false := by simpa using n11
  have d12 : (f0 == 12) = false := by simpa using n12
  have d13 : (f0 == 13) = false := by simpa using n13
  have d17 : (f0 == 17) = false := by simpa using n17
  have d18 : (f0 == 18) = false := by simpa using n18
  go_enter Tryz.func14, Tryz.ntmps14
  go_wp2_with fail
  go_ret
  exact ⟨retB (b := false) ⟨fun h => (by cases h), fun h => absurd h (unhide no)⟩, bAl (Below.refl _ _) _⟩
set_option maxRecDepth 20000 in
set_option maxHeartbeats 2000000 in
theorem right_has (P : Prop) (r : Nat) (w : World) (lo : Nat) (x : ExprT) (ks : List ET) (a : Option Addr) (cap : Nat)  (h : TrAt (r + 1) w lo (.slice a ks.length cap) (.node x ks)) (hf : Fit (.node x ks)) (h5 : x.f0 = 5) (hP : Hid (P ↔ VarT [bPri, bRes, bCon] (ks.getD 0 zT))) :
    Calls Tryz.prog 14 #[agg8 x (.slice a ks.length cap)] w fun e w' => RetB e P ∧ Below w.heap.size w w' := by
  have hl : ks.length = 1 := by have := hf.len (by omega); rw [h5] at this; simp [ari] at this; omega
  obtain ⟨b, cap', sa, sn, sc, es, hlo, hb, gc, htr⟩ := h.kid 0 (by omega)
  cases es
  have yes : Hid (P ↔ (ks[0].n.f0 = 3 ∧ ks[0].n.f1 ∈ [bPri, bRes, bCon])) := hide (by
    rw [unhide hP]
    unfold VarT
    rw [List.getD_eq_getElem?_getD, List.getElem?_eq_getElem (by omega)]; rfl)
  clear hP
  obtain ⟨W, hW⟩ : ∃ W, W = w.alloc (.cells (row8 x (.slice (some ⟨b, 0, none⟩) ks.length cap)) 47) := ⟨_, rfl⟩
  have BW : Below w.heap.size w W := by rw [hW]; exact bAl (Below.refl _ _) _
  have RW : RowIs W w.heap.size (row8 x (.slice (some ⟨b, 0, none⟩) ks.length cap)) 47 := by rw [hW]; exact RowIs.new _ _ _
  generalize ks[0].n = Y at *
  simp only [Nat.zero_mul] at gc
  have c0 := cellB BW hb gc.c0
  have c1 := cellB BW hb gc.c1
  have c2 := cellB BW hb gc.c2
  have c3 := cellB BW hb gc.c3
  have c4 := cellB BW hb gc.c4
  have c5 := cellB BW hb gc.c5
  have c6 := cellB BW hb gc.c6
  have c7 := cellB BW hb gc.c7
  have x0 := RW.at (o := 0) (v := .int .i64 5) (by rw [← h5]; rfl)
  have x7 := RW.at (o := 7) (v := .slice (some ⟨b, 0, none⟩) ks.length cap) rfl
  have zb : b < W.heap.size := Nat.lt_of_lt_of_le hb BW.size
  rw [hl] at *
  have HBW := hide BW
  have HW := hide hW.symm
  have q := hide (fun (w1 : World) (a : Option Addr) (hs : SlS w1 a 3 [bPri, bRes, bCon]) => l14V_any Y sa sn sc a 3 3 [bPri, bRes, bCon] w1 (by decide) hs)
  clear gc htr h hf hW BW RW hlo hb hl
  obtain ⟨f0, f1, f2, f3, f4, f5, f6⟩ := x
  simp only at h5
  subst h5
  go_enter Tryz.func14, Tryz.ntmps14
  go_upto_region 1 with fail
  rw [unhide HW]
  go_wp2_with fail
  refine (unhide q _ _ (row3 (RowIs.new _ _ _) rfl)).mono ?_
  rintro e w1 ⟨⟨bb, rfl, hbb⟩, hb1⟩
  have HB := hide hbb
  have B1 := hide (bTr (bAl (unhide HBW) _) hb1)
  clear hbb hb1 q c0 c1 c2 c3 c4 c5 c6 c7 x0 x7
  go_wp2_with fail
  go_ret
  exact ⟨retB ((unhide HB).trans (unhide yes).symm), unhide B1⟩
set_option maxRecDepth 20000 in
set_option maxHeartbeats 2000000 in
theorem right_is (P : Prop) (r : Nat) (w : World) (lo : Nat) (x : ExprT) (ks : List ET) (a : Option Addr) (cap : Nat)  (h : TrAt (r + 1) w lo (.slice a ks.length cap) (.node x ks)) (hf : Fit (.node x ks)) (h5 : x.f0 = 21) (hP : Hid (P ↔ VarT [bPri, bRes] (ks.getD 0 zT))) :
    Calls Tryz.prog 14 #[agg8 x (.slice a ks.length cap)] w fun e w' => RetB e P ∧ Below w.heap.size w w' := by
  have hl : ks.length = 1 := by have := hf.len (by omega); rw [h5] at this; simp [ari] at this; omega
  obtain ⟨b, cap', sa, sn, sc, es, hlo, hb, gc, htr⟩ := h.kid 0 (by omega)
  cases es
  have yes : Hid (P ↔ (ks[0].n.f0 = 3 ∧ ks[0].n.f1 ∈ [bPri, bRes])) := hide (by
    rw [unhide hP]
    unfold VarT
    rw [List.getD_eq_getElem?_getD, List.getElem?_eq_getElem (by omega)]; rfl)
  clear hP
  obtain ⟨W, hW⟩ : ∃ W, W = w.alloc (.cells (row8 x (.slice (some ⟨b, 0, none⟩) ks.length cap)) 47) := ⟨_, rfl⟩
  have BW : Below w.heap.size w W := by rw [hW]; exact bAl (Below.refl _ _) _
  have RW : RowIs W w.heap.size (row8 x (.slice (some ⟨b, 0, none⟩) ks.length cap)) 47 := by rw [hW]; exact RowIs.new _ _ _
  generalize ks[0].n = Y at *
  simp only [Nat.zero_mul] at gc
  have c0 := cellB BW hb gc.c0
  have c1 := cellB BW hb gc.c1
  have c2 := cellB BW hb gc.c2
  have c3 := cellB BW hb gc.c3
  have c4 := cellB BW hb gc.c4
  have c5 := cellB BW hb gc.c5
  have c6 := cellB BW hb gc.c6
  have c7 := cellB BW hb gc.c7
  have x0 := RW.at (o := 0) (v := .int .i64 21) (by rw [← h5]; rfl)
  have x7 := RW.at (o := 7) (v := .slice (some ⟨b, 0, none⟩) ks.length cap) rfl
  have zb : b < W.heap.size := Nat.lt_of_lt_of_le hb BW.size
  rw [hl] at *
  have HBW := hide BW
  have HW := hide hW.symm
  have q := hide (fun (w1 : World) (a : Option Addr) (hs : SlS w1 a 2 [bPri, bRes]) => l14V_any Y sa sn sc a 2 2 [bPri, bRes] w1 (by decide) hs)
  clear gc htr h hf hW BW RW hlo hb hl
  obtain ⟨f0, f1, f2, f3, f4, f5, f6⟩ := x
  simp only at h5
  subst h5
  go_enter Tryz.func14, Tryz.ntmps14
  go_upto_region 1 with fail
  rw [unhide HW]
  go_wp2_with fail
  refine (unhide q _ _ (row2 (RowIs.new _ _ _) rfl)).mono ?_
  rintro e w1 ⟨⟨bb, rfl, hbb⟩, hb1⟩
  have HB := hide hbb
  have B1 := hide (bTr (bAl (unhide HBW) _) hb1)
  clear hbb hb1 q c0 c1 c2 c3 c4 c5 c6 c7 x0 x7
  go_wp2_with fail
  go_ret
  exact ⟨retB ((unhide HB).trans (unhide yes).symm), unhide B1⟩
set_option maxRecDepth 20000 in
set_option maxHeartbeats 2000000 in
theorem right_kids (P : Prop) (r : Nat) (w : World) (lo : Nat) (x : ExprT) (ks : List ET) (a : Option Addr) (cap : Nat)  (h : TrAt (r + 1) w lo (.slice a ks.length cap) (.node x ks)) (hf : Fit (.node x ks)) (h6 : x.f0 = 6 ∨ x.f0 = 8 ∨ x.f0 = 9 ∨ x.f0 = 10) (ih : ∀ (w : World) (lo : Nat) (s : Value) (t : ET), TrAt r w lo s t → Fit t → Calls Tryz.prog 14 #[agg8 t.n s] w fun e w' => RetB e (FragN r t) ∧ Below w.heap.size w w') (hP : Hid (P ↔ ∀ k ∈ ks, FragN r k)) :
    Calls Tryz.prog 14 #[agg8 x (.slice a ks.length cap)] w fun e w' => RetB e P ∧ Below w.heap.size w w' := by
  have HT := hide h
  have HF := hide hf.out.2.2.1
  have IH := hide ih
  have hl10 : ks.length ≤ 10 := h.2.1
  obtain ⟨W, hW⟩ : ∃ W, W = w.alloc (.cells (row8 x (.slice a ks.length cap)) 47) := ⟨_, rfl⟩
  have BW : Below w.heap.size w W := by rw [hW]; exact bAl (Below.refl _ _) _
  have RW := hide (show RowIs W w.heap.size (row8 x (.slice a ks.length cap)) 47 by rw [hW]; exact RowIs.new _ _ _)
  have HBW := hide BW
  have HW := hide hW.symm
  have x0 := (unhide RW).at (o := 0) (v := .int .i64 x.f0) rfl
  have x7 := (unhide RW).at (o := 7) (v := .slice a ks.length cap) rfl
  clear h hf ih hW BW
  generalize x.f0 = kd at h6 x0
  go_enter Tryz.func14, Tryz.ntmps14
  go_upto_region 1 with fail
  rw [unhide HW]
  generalize agg8 x (.slice a ks.length cap) = V0
  rcases h6 with rfl | rfl | rfl | rfl
  all_goals go_wp2_with fail
  all_goals go_loopw [39] (fun i w' => ∃ k : Nat, k ≤ ks.length ∧ i = .int .i64 k ∧ Hid (∀ q ∈ ks.take k, FragN r q) ∧ Hid (Below W.heap.size W w')) (fun i _ => ks.length - (Go.RowKit.intOf i).toNat)
  all_goals first
    | exact ⟨0, Nat.zero_le _, rfl, hide (by simp), hide (Below.refl _ _)⟩
    | (obtain ⟨k, hk, rfl, hok, hb'⟩ := hrel
       by_cases hlt : k < ks.length
       · obtain ⟨b, cap', sa, sn, sc, es, hlo, hbz, h8, htr⟩ := (unhide HT).kid k hlt
         simp at es
         obtain ⟨rfl, rfl⟩ := es
         have bwr := bTr (unhide HBW) (unhide hb')
         have c0 := cellB bwr hbz h8.c0
         have c1 := cellB bwr hbz h8.c1
         have c2 := cellB bwr hbz h8.c2
         have c3 := cellB bwr hbz h8.c3
         have c4 := cellB bwr hbz h8.c4
         have c5 := cellB bwr hbz h8.c5
         have c6 := cellB bwr hbz h8.c6
         have c7 := cellB bwr hbz h8.c7
         have hst := hide (take_all (P := FragN r) hlt)
         have hno := hide (fun h : (∀ k ∈ ks, FragN r k) => h _ (List.getElem_mem hlt))
         have hfk := hide (unhide HF _ (List.getElem_mem hlt))
         generalize ks[k] = K at *
         obtain ⟨Y, hY⟩ : ∃ Y, K.n = Y := ⟨_, rfl⟩
         rw [hY] at c0 c1 c2 c3 c4 c5 c6
         obtain ⟨W3, hW3⟩ : ∃ W, W = wr.alloc (.cells (row8 Y (.slice sa sn sc)) 47) := ⟨_, rfl⟩
         have b3 : Below wr.heap.size wr W3 := by rw [hW3]; exact bAl (Below.refl _ _) _
         have K3 := hide (show RowIs W3 wr.heap.size (row8 Y (.slice sa sn sc)) 47 by rw [hW3]; exact RowIs.new _ _ _)
         have HB3 := hide (bTr (unhide hb') b3)
         have q := hide (unhide IH W3 lo (.slice sa sn sc) K (htr.keptY ((KeptY.refl lo w).below (bTr bwr b3) (Nat.le_refl _))) (unhide hfk))
         rw [hY] at q
         have HW3 := hide hW3.symm
         clear h8 htr bwr hbz hlo hY hW3 b3 hfk
         go_upto_region 15 with fail
         rw [unhide HW3]
         clear c0 c1 c2 c3 c4 c5 c6 c7 HW3
         have k0 := (unhide K3).at (o := 0) (v := .int .i64 Y.f0) rfl
         have k1 := (unhide K3).at (o := 1) (v := .string Y.f1) rfl
         have k2 := (unhide K3).at (o := 2) (v := .int .i64 Y.f2) rfl
         have k3 := (unhide K3).at (o := 3) (v := .int .i64 Y.f3) rfl
         have k4 := (unhide K3).at (o := 4) (v := .string Y.f4) rfl
         have k5 := (unhide K3).at (o := 5) (v := .string Y.f5) rfl
         have k6 := (unhide K3).at (o := 6) (v := .int .i64 Y.f6) rfl
         have k7 := (unhide K3).at (o := 7) (v := .slice sa sn sc) rfl
         go_wp2_with fail
         refine (unhide q).mono ?_
         rintro e w4 ⟨⟨b4, rfl, h4⟩, hb4⟩
         have HB4 := hide (bTr (unhide HB3) hb4)
         have H4 := hide h4
         clear q k0 k1 k2 k3 k4 k5 k6 k7 h4 hb4
         cases b4 with
         | false =>
           have no : Hid (¬ P) := hide (fun h => by have := (unhide H4).2 (unhide hno ((unhide hP).1 h)); cases this)
           clear H4 hno
           go_wp2_with fail
           go_ret
           exact ⟨retB (b := false) ⟨fun h => (by cases h), fun h => absurd h (unhide no)⟩, bTr (unhide HBW) (unhide HB4)⟩
         | true =>
           have yes := hide ((unhide hst).2 ⟨unhide hok, (unhide H4).1 rfl⟩)
           clear H4 hno
           go_wp2_with fail
           exact ⟨⟨k + 1, by omega, by go_num, yes, HB4⟩, by simp [Go.RowKit.intOf]; omega⟩
       · have yes : Hid P := hide ((unhide hP).2 (by
           have := unhide hok
           rw [List.take_of_length_le (by omega)] at this
           exact this))
         go_wp2_with fail
         go_ret
         exact ⟨retB (b := true) ⟨fun _ => unhide yes, fun _ => rfl⟩, bTr (unhide HBW) (unhide hb')⟩)
end Go.Proofs.YteaidfighimoiaaGreat.V
/- spec.l14Right of a pair. -/
namespace Go.Proofs.YteaidfighimoiaaGreat.V
open Go.RowKit Go.Maps

set_option maxRecDepth 20000 in
set_option maxHeartbeats 2000000 in
theorem right_pair11 (P : Prop) (r : Nat) (w : World) (lo : Nat) (x : ExprT) (ks : List ET) (a : Option Addr) (cap : Nat)  (h : TrAt (r + 1) w lo (.slice a ks.length cap) (.node x ks)) (hf : Fit (.node x ks)) (hk : x.f0 = 11) (hP : Hid (P ↔ PairN x.f0 (ks.getD 0 zT) (ks.getD 1 zT))) :
    Calls Tryz.prog 14 #[agg8 x (.slice a ks.length cap)] w fun e w' => RetB e P ∧ Below w.heap.size w w' := by
  have hl : ks.length = 2 := by have := hf.len (by omega); rw [hk] at this; simp [ari] at this; omega
  obtain ⟨b, cap', sa, sn, sc, es, hlo, hb, gc, htc⟩ := h.kid 0 (by omega)
  cases es
  obtain ⟨b', cap', ta, tn, tc, es, _, _, gd, htd⟩ := h.kid 1 (by omega)
  cases es
  have f0 : Fit ks[0] := hf.out.2.2.1 _ (List.getElem_mem _)
  have f1 : Fit ks[1] := hf.out.2.2.1 _ (List.getElem_mem _)
  have qa := hide (fun (w' : World) (hb : Below w.heap.size w w') => l14Path_t htc f0 w' hb)
  have qb := hide (fun (w' : World) (hb : Below w.heap.size w w') => l14Path_t htd f1 w' hb)
  have hP2 : Hid (P ↔ PairN x.f0 ks[0] ks[1]) := hide (by
    rw [unhide hP, List.getD_eq_getElem?_getD, List.getD_eq_getElem?_getD, List.getElem?_eq_getElem (by omega), List.getElem?_eq_getElem (by omega)]; rfl)
  clear hP
  have lt0 : Hid (LitT ks[0] ↔ ks[0].n.f0 = 1) := hide Iff.rfl
  have lt1 : Hid (LitT ks[1] ↔ ks[1].n.f0 = 1) := hide Iff.rfl
  have vt0 : Hid (VarT [bPri, bRes, bAct] ks[0] ↔ (ks[0].n.f0 = 3 ∧ ks[0].n.f1 ∈ [bPri, bRes, bAct])) := hide Iff.rfl
  obtain ⟨PA, ePA⟩ : ∃ PA, PathT ks[0] = PA := ⟨_, rfl⟩
  rw [ePA] at qa
  have hPA : Hid (PA ↔ PathT ks[0]) := hide (by rw [ePA])
  clear ePA
  obtain ⟨W, hW⟩ : ∃ W, W = w.alloc (.cells (row8 x (.slice (some ⟨b, 0, none⟩) ks.length cap)) 47) := ⟨_, rfl⟩
  have BW : Below w.heap.size w W := by rw [hW]; exact bAl (Below.refl _ _) _
  have RW : RowIs W w.heap.size (row8 x (.slice (some ⟨b, 0, none⟩) ks.length cap)) 47 := by rw [hW]; exact RowIs.new _ _ _
  generalize ks[0] = K0 at *
  generalize ks[1] = K1 at *
  generalize K0.n = Y0 at *
  generalize K1.n = Y1 at *
  simp only [Nat.zero_mul, Nat.one_mul] at gc gd
  have c0 := cellB BW hb gc.c0
  have c1 := cellB BW hb gc.c1
  have c2 := cellB BW hb gc.c2
  have c3 := cellB BW hb gc.c3
  have c4 := cellB BW hb gc.c4
  have c5 := cellB BW hb gc.c5
  have c6 := cellB BW hb gc.c6
  have c7 := cellB BW hb gc.c7
  have d0 := cellB BW hb gd.c0
  have d1 := cellB BW hb gd.c1
  have d2 := cellB BW hb gd.c2
  have d3 := cellB BW hb gd.c3
  have d4 := cellB BW hb gd.c4
  have d5 := cellB BW hb gd.c5
  have d6 := cellB BW hb gd.c6
  have d7 := cellB BW hb gd.c7
  have x0 := RW.at (o := 0) (v := .int .i64 x.f0) rfl
  have x7 := RW.at (o := 7) (v := .slice (some ⟨b, 0, none⟩) ks.length cap) rfl
  have zb : b < W.heap.size := Nat.lt_of_lt_of_le hb BW.size
  rw [hl] at *
  have HBW := hide BW
  have HW := hide hW.symm
  have HR := hide RW
  have q := hide (fun (w1 : World) (a : Option Addr) (hs : SlS w1 a 3 [bPri, bRes, bAct]) => l14V_any Y0 sa sn sc a 3 3 [bPri, bRes, bAct] w1 (by decide) hs)
  clear gc gd htc htd h hf hW BW RW hlo f0 f1 hl
  have hxk := hk.symm
  rw [hk] at hP2 x0
  clear hk
  have HXK := hide hxk
  clear hxk
  go_enter Tryz.func14, Tryz.ntmps14
  go_upto_region 1 with fail
  rw [unhide HW]
  generalize agg8 x (.slice (some ⟨b, 0, none⟩) 2 cap) = V0
  · have HK : Hid (x.f0 = 11) := hide (unhide HXK).symm
    clear HXK
    go_upto_region 27 with fail
    obtain ⟨W2, hW2⟩ : ∃ X, X = W.alloc (.cells (row8 Y0 (.slice sa sn sc)) 47) := ⟨_, rfl⟩
    have b2 : Below W.heap.size W W2 := by rw [hW2]; exact bAl (Below.refl _ _) _
    have RA := hide (show RowIs W2 W.heap.size (row8 Y0 (.slice sa sn sc)) 47 by rw [hW2]; exact RowIs.new _ _ _)
    have s2 : W2.heap.size = W.heap.size + 1 := by rw [hW2]; simp
    rw [← hW2]
    replace HR := hide ((unhide HR).keep b2)
    have HB2 := hide (bTr (unhide HBW) b2)
    have x7 := (unhide HR).at (o := 7) (v := .slice (some ⟨b, 0, none⟩) 2 cap) rfl
    replace d0 := cellB b2 zb d0
    replace d1 := cellB b2 zb d1
    replace d2 := cellB b2 zb d2
    replace d3 := cellB b2 zb d3
    replace d4 := cellB b2 zb d4
    replace d5 := cellB b2 zb d5
    replace d6 := cellB b2 zb d6
    replace d7 := cellB b2 zb d7
    have zb' : b < W2.heap.size := Nat.lt_of_lt_of_le zb b2.size
    clear hW2 b2 x0 c0 c1 c2 c3 c4 c5 c6 c7 zb
    go_upto_region 28 with fail
    obtain ⟨W3, hW3⟩ : ∃ X, X = W2.alloc (.cells (row8 Y1 (.slice ta tn tc)) 47) := ⟨_, rfl⟩
    have b3 : Below W2.heap.size W2 W3 := by rw [hW3]; exact bAl (Below.refl _ _) _
    have RB := hide (show RowIs W3 (W.heap.size + 1) (row8 Y1 (.slice ta tn tc)) 47 by rw [hW3, ← s2]; exact RowIs.new _ _ _)
    rw [← hW3]
    replace HR := hide ((unhide HR).keep b3)
    replace RA := hide ((unhide RA).keep b3)
    have HB3 := hide (bTr (unhide HB2) b3)
    clear hW3 b3 d0 d1 d2 d3 d4 d5 d6 d7 x7 zb' HB2
    clear s2
    have x0 := (unhide HR).at (o := 0) (v := .int .i64 11) (by rw [← unhide HK]; rfl)
    have a0 := (unhide RA).at (o := 0) (v := .int .i64 Y0.f0) rfl
    have a1 := (unhide RA).at (o := 1) (v := .string Y0.f1) rfl
    have a2 := (unhide RA).at (o := 2) (v := .int .i64 Y0.f2) rfl
    have a3 := (unhide RA).at (o := 3) (v := .int .i64 Y0.f3) rfl
    have a4 := (unhide RA).at (o := 4) (v := .string Y0.f4) rfl
    have a5 := (unhide RA).at (o := 5) (v := .string Y0.f5) rfl
    have a6 := (unhide RA).at (o := 6) (v := .int .i64 Y0.f6) rfl
    have a7 := (unhide RA).at (o := 7) (v := .slice sa sn sc) rfl
    have b0 := (unhide RB).at (o := 0) (v := .int .i64 Y1.f0) rfl
    have b1 := (unhide RB).at (o := 1) (v := .string Y1.f1) rfl
    have b2 := (unhide RB).at (o := 2) (v := .int .i64 Y1.f2) rfl
    have b3 := (unhide RB).at (o := 3) (v := .int .i64 Y1.f3) rfl
    have b4 := (unhide RB).at (o := 4) (v := .string Y1.f4) rfl
    have b5 := (unhide RB).at (o := 5) (v := .string Y1.f5) rfl
    have b6 := (unhide RB).at (o := 6) (v := .int .i64 Y1.f6) rfl
    have b7 := (unhide RB).at (o := 7) (v := .slice ta tn tc) rfl
    have zx := (unhide HR).lt
    have za := (unhide RA).lt
    have zb2 := (unhide RB).lt
    by_cases hy1 : Y1.f0 = 1
    · rw [hy1] at b0
      have HY1 := hide hy1
      clear hy1
      go_wp2_with fail
      refine (unhide q _ _ (row3 (RowIs.new _ _ _) rfl)).mono ?_
      rintro e w4 ⟨⟨o4, rfl, h4⟩, hb4⟩
      have hb4' := (bAl (Below.refl W3.heap.size W3) _).trans (hb4.mono (by simp))
      replace HR := hide ((unhide HR).keep hb4')
      replace RA := hide ((unhide RA).keep hb4')
      replace RB := hide ((unhide RB).keep hb4')
      replace HB3 := hide (bTr (unhide HB3) hb4')
      have H4 := hide (h4.trans (unhide vt0).symm)
      have L1 : Hid (LitT K1) := hide ((unhide lt1).2 (unhide HY1))
      clear hb4 hb4' h4 x0 a0 b0 a1 b1 a2 b2 a3 b3 a4 b4 a5 b5 a6 b6 a7 b7 zx za zb2
      have x0 := (unhide HR).at (o := 0) (v := .int .i64 11) (by rw [← unhide HK]; rfl)
      have a0 := (unhide RA).at (o := 0) (v := .int .i64 Y0.f0) rfl
      have a1 := (unhide RA).at (o := 1) (v := .string Y0.f1) rfl
      have a2 := (unhide RA).at (o := 2) (v := .int .i64 Y0.f2) rfl
      have a3 := (unhide RA).at (o := 3) (v := .int .i64 Y0.f3) rfl
      have a4 := (unhide RA).at (o := 4) (v := .string Y0.f4) rfl
      have a5 := (unhide RA).at (o := 5) (v := .string Y0.f5) rfl
      have a6 := (unhide RA).at (o := 6) (v := .int .i64 Y0.f6) rfl
      have a7 := (unhide RA).at (o := 7) (v := .slice sa sn sc) rfl
      have b0 := (unhide RB).at (o := 0) (v := .int .i64 Y1.f0) rfl
      have b1 := (unhide RB).at (o := 1) (v := .string Y1.f1) rfl
      have b2 := (unhide RB).at (o := 2) (v := .int .i64 Y1.f2) rfl
      have b3 := (unhide RB).at (o := 3) (v := .int .i64 Y1.f3) rfl
      have b4 := (unhide RB).at (o := 4) (v := .string Y1.f4) rfl
      have b5 := (unhide RB).at (o := 5) (v := .string Y1.f5) rfl
      have b6 := (unhide RB).at (o := 6) (v := .int .i64 Y1.f6) rfl
      have b7 := (unhide RB).at (o := 7) (v := .slice ta tn tc) rfl
      have zx := (unhide HR).lt
      have za := (unhide RA).lt
      have zb2 := (unhide RB).lt
      have hV : Hid (P ↔ (VarT [bPri, bRes, bAct] K0 ∨ (PA ∨ (PathT K1 ∧ Y0.f0 = 1)))) := hide ((unhide hP2).trans (by unfold PairN; simp [unhide L1, ← unhide hPA, unhide lt0]))
      cases o4 with
      | true =>
        have yes : Hid P := hide ((unhide hV).2 (.inl ((unhide H4).1 rfl)))
        clear hV H4
        go_wp2_with fail
        go_ret
        exact ⟨retB (b := true) ⟨fun _ => unhide yes, fun _ => rfl⟩, unhide HB3⟩
      | false =>
        have hA : Hid (P ↔ (PA ∨ (PathT K1 ∧ Y0.f0 = 1))) := hide ((unhide hV).trans ⟨fun h => h.resolve_left (fun g => by have := (unhide H4).2 g; cases this), .inr⟩)
        clear hV H4
        go_wp2_with fail
        refine (unhide qa _ (unhide HB3)).mono ?_
        rintro e w5 ⟨⟨o5, rfl, h5⟩, hb5⟩
        replace HR := hide ((unhide HR).keep hb5)
        replace RA := hide ((unhide RA).keep hb5)
        replace RB := hide ((unhide RB).keep hb5)
        replace HB3 := hide (bTr (unhide HB3) hb5)
        have H5 := hide h5
        clear hb5 h5 x0 a0 b0 a1 b1 a2 b2 a3 b3 a4 b4 a5 b5 a6 b6 a7 b7 zx za zb2
        have x0 := (unhide HR).at (o := 0) (v := .int .i64 11) (by rw [← unhide HK]; rfl)
        have a0 := (unhide RA).at (o := 0) (v := .int .i64 Y0.f0) rfl
        have a1 := (unhide RA).at (o := 1) (v := .string Y0.f1) rfl
        have a2 := (unhide RA).at (o := 2) (v := .int .i64 Y0.f2) rfl
        have a3 := (unhide RA).at (o := 3) (v := .int .i64 Y0.f3) rfl
        have a4 := (unhide RA).at (o := 4) (v := .string Y0.f4) rfl
        have a5 := (unhide RA).at (o := 5) (v := .string Y0.f5) rfl
        have a6 := (unhide RA).at (o := 6) (v := .int .i64 Y0.f6) rfl
        have a7 := (unhide RA).at (o := 7) (v := .slice sa sn sc) rfl
        have b0 := (unhide RB).at (o := 0) (v := .int .i64 Y1.f0) rfl
        have b1 := (unhide RB).at (o := 1) (v := .string Y1.f1) rfl
        have b2 := (unhide RB).at (o := 2) (v := .int .i64 Y1.f2) rfl
        have b3 := (unhide RB).at (o := 3) (v := .int .i64 Y1.f3) rfl
        have b4 := (unhide RB).at (o := 4) (v := .string Y1.f4) rfl
        have b5 := (unhide RB).at (o := 5) (v := .string Y1.f5) rfl
        have b6 := (unhide RB).at (o := 6) (v := .int .i64 Y1.f6) rfl
        have b7 := (unhide RB).at (o := 7) (v := .slice ta tn tc) rfl
        have zx := (unhide HR).lt
        have za := (unhide RA).lt
        have zb2 := (unhide RB).lt
        cases o5 with
        | true =>
          have yes : Hid P := hide ((unhide hA).2 (.inl ((unhide H5).1 rfl)))
          clear hA H5
          go_wp2_with fail
          go_ret
          exact ⟨retB (b := true) ⟨fun _ => unhide yes, fun _ => rfl⟩, unhide HB3⟩
        | false =>
          have hQ : Hid (P ↔ (PathT K1 ∧ Y0.f0 = 1)) := hide ((unhide hA).trans ⟨fun h => h.resolve_left (fun g => by have := (unhide H5).2 g; cases this), .inr⟩)
          clear hA H5
          go_wp2_with fail
          refine (unhide qb _ (unhide HB3)).mono ?_
          rintro e w6 ⟨⟨o6, rfl, h6⟩, hb6⟩
          replace HR := hide ((unhide HR).keep hb6)
          replace RA := hide ((unhide RA).keep hb6)
          replace RB := hide ((unhide RB).keep hb6)
          replace HB3 := hide (bTr (unhide HB3) hb6)
          have H6 := hide h6
          clear hb6 h6 x0 a0 b0 a1 b1 a2 b2 a3 b3 a4 b4 a5 b5 a6 b6 a7 b7 zx za zb2
          have x0 := (unhide HR).at (o := 0) (v := .int .i64 11) (by rw [← unhide HK]; rfl)
          have a0 := (unhide RA).at (o := 0) (v := .int .i64 Y0.f0) rfl
          have a1 := (unhide RA).at (o := 1) (v := .string Y0.f1) rfl
          have a2 := (unhide RA).at (o := 2) (v := .int .i64 Y0.f2) rfl
          have a3 := (unhide RA).at (o := 3) (v := .int .i64 Y0.f3) rfl
          have a4 := (unhide RA).at (o := 4) (v := .string Y0.f4) rfl
          have a5 := (unhide RA).at (o := 5) (v := .string Y0.f5) rfl
          have a6 := (unhide RA).at (o := 6) (v := .int .i64 Y0.f6) rfl
          have a7 := (unhide RA).at (o := 7) (v := .slice sa sn sc) rfl
          have b0 := (unhide RB).at (o := 0) (v := .int .i64 Y1.f0) rfl
          have b1 := (unhide RB).at (o := 1) (v := .string Y1.f1) rfl
          have b2 := (unhide RB).at (o := 2) (v := .int .i64 Y1.f2) rfl
          have b3 := (unhide RB).at (o := 3) (v := .int .i64 Y1.f3) rfl
          have b4 := (unhide RB).at (o := 4) (v := .string Y1.f4) rfl
          have b5 := (unhide RB).at (o := 5) (v := .string Y1.f5) rfl
          have b6 := (unhide RB).at (o := 6) (v := .int .i64 Y1.f6) rfl
          have b7 := (unhide RB).at (o := 7) (v := .slice ta tn tc) rfl
          have zx := (unhide HR).lt
          have za := (unhide RA).lt
          have zb2 := (unhide RB).lt
          cases o6 with
          | false =>
            have no : Hid (¬ P) := hide (fun h => by have := (unhide H6).2 ((unhide hQ).1 h).1; cases this)
            clear hQ H6
            go_wp2_with fail
            go_ret
            exact ⟨retB (b := false) ⟨fun h => (by cases h), fun h => absurd h (unhide no)⟩, unhide HB3⟩
          | true =>
            have hQ2 : Hid (P ↔ Y0.f0 = 1) := hide ((unhide hQ).trans ⟨fun h => h.2, fun h => ⟨(unhide H6).1 rfl, h⟩⟩)
            clear hQ H6
            by_cases hy : Y0.f0 = 1
            · have yes : Hid P := hide ((unhide hQ2).2 hy)
              rw [hy] at a0
              clear hQ2 hy
              go_wp2_with fail
              go_ret
              exact ⟨retB (b := true) ⟨fun _ => unhide yes, fun _ => rfl⟩, unhide HB3⟩
            · have no : Hid (¬ P) := hide (fun h => hy ((unhide hQ2).1 h))
              have dy : (Y0.f0 == 1) = false := by simpa using hy
              clear hQ2
              go_wp2_with fail
              go_ret
              exact ⟨retB (b := false) ⟨fun h => (by cases h), fun h => absurd h (unhide no)⟩, unhide HB3⟩
    · have dy1 : (Y1.f0 == 1) = false := by simpa using hy1
      have L1 : Hid (¬ LitT K1) := hide (fun h => hy1 ((unhide lt1).1 h))
      have hQ : Hid (P ↔ (PathT K1 ∧ Y0.f0 = 1)) := hide ((unhide hP2).trans (by unfold PairN; simp [unhide L1, unhide lt0]))
      go_wp2_with fail
      refine (unhide qb _ (unhide HB3)).mono ?_
      rintro e w6 ⟨⟨o6, rfl, h6⟩, hb6⟩
      replace HR := hide ((unhide HR).keep hb6)
      replace RA := hide ((unhide RA).keep hb6)
      replace RB := hide ((unhide RB).keep hb6)
      replace HB3 := hide (bTr (unhide HB3) hb6)
      have H6 := hide h6
      clear hb6 h6 x0 a0 b0 a1 b1 a2 b2 a3 b3 a4 b4 a5 b5 a6 b6 a7 b7 zx za zb2
      have x0 := (unhide HR).at (o := 0) (v := .int .i64 11) (by rw [← unhide HK]; rfl)
      have a0 := (unhide RA).at (o := 0) (v := .int .i64 Y0.f0) rfl
      have a1 := (unhide RA).at (o := 1) (v := .string Y0.f1) rfl
      have a2 := (unhide RA).at (o := 2) (v := .int .i64 Y0.f2) rfl
      have a3 := (unhide RA).at (o := 3) (v := .int .i64 Y0.f3) rfl
      have a4 := (unhide RA).at (o := 4) (v := .string Y0.f4) rfl
      have a5 := (unhide RA).at (o := 5) (v := .string Y0.f5) rfl
      have a6 := (unhide RA).at (o := 6) (v := .int .i64 Y0.f6) rfl
      have a7 := (unhide RA).at (o := 7) (v := .slice sa sn sc) rfl
      have b0 := (unhide RB).at (o := 0) (v := .int .i64 Y1.f0) rfl
      have b1 := (unhide RB).at (o := 1) (v := .string Y1.f1) rfl
      have b2 := (unhide RB).at (o := 2) (v := .int .i64 Y1.f2) rfl
      have b3 := (unhide RB).at (o := 3) (v := .int .i64 Y1.f3) rfl
      have b4 := (unhide RB).at (o := 4) (v := .string Y1.f4) rfl
      have b5 := (unhide RB).at (o := 5) (v := .string Y1.f5) rfl
      have b6 := (unhide RB).at (o := 6) (v := .int .i64 Y1.f6) rfl
      have b7 := (unhide RB).at (o := 7) (v := .slice ta tn tc) rfl
      have zx := (unhide HR).lt
      have za := (unhide RA).lt
      have zb2 := (unhide RB).lt
      cases o6 with
      | false =>
        have no : Hid (¬ P) := hide (fun h => by have := (unhide H6).2 ((unhide hQ).1 h).1; cases this)
        clear hQ H6
        go_wp2_with fail
        go_ret
        exact ⟨retB (b := false) ⟨fun h => (by cases h), fun h => absurd h (unhide no)⟩, unhide HB3⟩
      | true =>
        have hQ2 : Hid (P ↔ Y0.f0 = 1) := hide ((unhide hQ).trans ⟨fun h => h.2, fun h => ⟨(unhide H6).1 rfl, h⟩⟩)
        clear hQ H6
        by_cases hy : Y0.f0 = 1
        · have yes : Hid P := hide ((unhide hQ2).2 hy)
          rw [hy] at a0
          clear hQ2 hy
          go_wp2_with fail
          go_ret
          exact ⟨retB (b := true) ⟨fun _ => unhide yes, fun _ => rfl⟩, unhide HB3⟩
        · have no : Hid (¬ P) := hide (fun h => hy ((unhide hQ2).1 h))
          have dy : (Y0.f0 == 1) = false := by simpa using hy
          clear hQ2
          go_wp2_with fail
          go_ret
          exact ⟨retB (b := false) ⟨fun h => (by cases h), fun h => absurd h (unhide no)⟩, unhide HB3⟩
set_option maxRecDepth 20000 in
set_option maxHeartbeats 2000000 in
theorem right_pair12 (P : Prop) (r : Nat) (w : World) (lo : Nat) (x : ExprT) (ks : List ET) (a : Option Addr) (cap : Nat)  (h : TrAt (r + 1) w lo (.slice a ks.length cap) (.node x ks)) (hf : Fit (.node x ks)) (hk : x.f0 = 12) (hP : Hid (P ↔ PairN x.f0 (ks.getD 0 zT) (ks.getD 1 zT))) :
    Calls Tryz.prog 14 #[agg8 x (.slice a ks.length cap)] w fun e w' => RetB e P ∧ Below w.heap.size w w' := by
  have hl : ks.length = 2 := by have := hf.len (by omega); rw [hk] at this; simp [ari] at this; omega
  obtain ⟨b, cap', sa, sn, sc, es, hlo, hb, gc, htc⟩ := h.kid 0 (by omega)
  cases es
  obtain ⟨b', cap', ta, tn, tc, es, _, _, gd, htd⟩ := h.kid 1 (by omega)
  cases es
  have f0 : Fit ks[0] := hf.out.2.2.1 _ (List.getElem_mem _)
  have f1 : Fit ks[1] := hf.out.2.2.1 _ (List.getElem_mem _)
  have qa := hide (fun (w' : World) (hb : Below w.heap.size w w') => l14Path_t htc f0 w' hb)
  have qb := hide (fun (w' : World) (hb : Below w.heap.size w w') => l14Path_t htd f1 w' hb)
  have hP2 : Hid (P ↔ PairN x.f0 ks[0] ks[1]) := hide (by
    rw [unhide hP, List.getD_eq_getElem?_getD, List.getD_eq_getElem?_getD, List.getElem?_eq_getElem (by omega), List.getElem?_eq_getElem (by omega)]; rfl)
  clear hP
  have lt0 : Hid (LitT ks[0] ↔ ks[0].n.f0 = 1) := hide Iff.rfl
  have lt1 : Hid (LitT ks[1] ↔ ks[1].n.f0 = 1) := hide Iff.rfl
  have vt0 : Hid (VarT [bPri, bRes, bAct] ks[0] ↔ (ks[0].n.f0 = 3 ∧ ks[0].n.f1 ∈ [bPri, bRes, bAct])) := hide Iff.rfl
  obtain ⟨PA, ePA⟩ : ∃ PA, PathT ks[0] = PA := ⟨_, rfl⟩
  rw [ePA] at qa
  have hPA : Hid (PA ↔ PathT ks[0]) := hide (by rw [ePA])
  clear ePA
  obtain ⟨W, hW⟩ : ∃ W, W = w.alloc (.cells (row8 x (.slice (some ⟨b, 0, none⟩) ks.length cap)) 47) := ⟨_, rfl⟩
  have BW : Below w.heap.size w W := by rw [hW]; exact bAl (Below.refl _ _) _
  have RW : RowIs W w.heap.size (row8 x (.slice (some ⟨b, 0, none⟩) ks.length cap)) 47 := by rw [hW]; exact RowIs.new _ _ _
  generalize ks[0] = K0 at *
  generalize ks[1] = K1 at *
  generalize K0.n = Y0 at *
  generalize K1.n = Y1 at *
  simp only [Nat.zero_mul, Nat.one_mul] at gc gd
  have c0 := cellB BW hb gc.c0
  have c1 := cellB BW hb gc.c1
  have c2 := cellB BW hb gc.c2
  have c3 := cellB BW hb gc.c3
  have c4 := cellB BW hb gc.c4
  have c5 := cellB BW hb gc.c5
  have c6 := cellB BW hb gc.c6
  have c7 := cellB BW hb gc.c7
  have d0 := cellB BW hb gd.c0
  have d1 := cellB BW hb gd.c1
  have d2 := cellB BW hb gd.c2
  have d3 := cellB BW hb gd.c3
  have d4 := cellB BW hb gd.c4
  have d5 := cellB BW hb gd.c5
  have d6 := cellB BW hb gd.c6
  have d7 := cellB BW hb gd.c7
  have x0 := RW.at (o := 0) (v := .int .i64 x.f0) rfl
  have x7 := RW.at (o := 7) (v := .slice (some ⟨b, 0, none⟩) ks.length cap) rfl
  have zb : b < W.heap.size := Nat.lt_of_lt_of_le hb BW.size
  rw [hl] at *
  have HBW := hide BW
  have HW := hide hW.symm
  have HR := hide RW
  have q := hide (fun (w1 : World) (a : Option Addr) (hs : SlS w1 a 3 [bPri, bRes, bAct]) => l14V_any Y0 sa sn sc a 3 3 [bPri, bRes, bAct] w1 (by decide) hs)
  clear gc gd htc htd h hf hW BW RW hlo f0 f1 hl
  have hxk := hk.symm
  rw [hk] at hP2 x0
  clear hk
  have HXK := hide hxk
  clear hxk
  go_enter Tryz.func14, Tryz.ntmps14
  go_upto_region 1 with fail
  rw [unhide HW]
  generalize agg8 x (.slice (some ⟨b, 0, none⟩) 2 cap) = V0
  · have HK : Hid (x.f0 = 12) := hide (unhide HXK).symm
    clear HXK
    go_upto_region 27 with fail
    obtain ⟨W2, hW2⟩ : ∃ X, X = W.alloc (.cells (row8 Y0 (.slice sa sn sc)) 47) := ⟨_, rfl⟩
    have b2 : Below W.heap.size W W2 := by rw [hW2]; exact bAl (Below.refl _ _) _
    have RA := hide (show RowIs W2 W.heap.size (row8 Y0 (.slice sa sn sc)) 47 by rw [hW2]; exact RowIs.new _ _ _)
    have s2 : W2.heap.size = W.heap.size + 1 := by rw [hW2]; simp
    rw [← hW2]
    replace HR := hide ((unhide HR).keep b2)
    have HB2 := hide (bTr (unhide HBW) b2)
    have x7 := (unhide HR).at (o := 7) (v := .slice (some ⟨b, 0, none⟩) 2 cap) rfl
    replace d0 := cellB b2 zb d0
    replace d1 := cellB b2 zb d1
    replace d2 := cellB b2 zb d2
    replace d3 := cellB b2 zb d3
    replace d4 := cellB b2 zb d4
    replace d5 := cellB b2 zb d5
    replace d6 := cellB b2 zb d6
    replace d7 := cellB b2 zb d7
    have zb' : b < W2.heap.size := Nat.lt_of_lt_of_le zb b2.size
    clear hW2 b2 x0 c0 c1 c2 c3 c4 c5 c6 c7 zb
    go_upto_region 28 with fail
    obtain ⟨W3, hW3⟩ : ∃ X, X = W2.alloc (.cells (row8 Y1 (.slice ta tn tc)) 47) := ⟨_, rfl⟩
    have b3 : Below W2.heap.size W2 W3 := by rw [hW3]; exact bAl (Below.refl _ _) _
    have RB := hide (show RowIs W3 (W.heap.size + 1) (row8 Y1 (.slice ta tn tc)) 47 by rw [hW3, ← s2]; exact RowIs.new _ _ _)
    rw [← hW3]
    replace HR := hide ((unhide HR).keep b3)
    replace RA := hide ((unhide RA).keep b3)
    have HB3 := hide (bTr (unhide HB2) b3)
    clear hW3 b3 d0 d1 d2 d3 d4 d5 d6 d7 x7 zb' HB2
    clear s2
    have x0 := (unhide HR).at (o := 0) (v := .int .i64 12) (by rw [← unhide HK]; rfl)
    have a0 := (unhide RA).at (o := 0) (v := .int .i64 Y0.f0) rfl
    have a1 := (unhide RA).at (o := 1) (v := .string Y0.f1) rfl
    have a2 := (unhide RA).at (o := 2) (v := .int .i64 Y0.f2) rfl
    have a3 := (unhide RA).at (o := 3) (v := .int .i64 Y0.f3) rfl
    have a4 := (unhide RA).at (o := 4) (v := .string Y0.f4) rfl
    have a5 := (unhide RA).at (o := 5) (v := .string Y0.f5) rfl
    have a6 := (unhide RA).at (o := 6) (v := .int .i64 Y0.f6) rfl
    have a7 := (unhide RA).at (o := 7) (v := .slice sa sn sc) rfl
    have b0 := (unhide RB).at (o := 0) (v := .int .i64 Y1.f0) rfl
    have b1 := (unhide RB).at (o := 1) (v := .string Y1.f1) rfl
    have b2 := (unhide RB).at (o := 2) (v := .int .i64 Y1.f2) rfl
    have b3 := (unhide RB).at (o := 3) (v := .int .i64 Y1.f3) rfl
    have b4 := (unhide RB).at (o := 4) (v := .string Y1.f4) rfl
    have b5 := (unhide RB).at (o := 5) (v := .string Y1.f5) rfl
    have b6 := (unhide RB).at (o := 6) (v := .int .i64 Y1.f6) rfl
    have b7 := (unhide RB).at (o := 7) (v := .slice ta tn tc) rfl
    have zx := (unhide HR).lt
    have za := (unhide RA).lt
    have zb2 := (unhide RB).lt
    by_cases hy1 : Y1.f0 = 1
    · rw [hy1] at b0
      have HY1 := hide hy1
      clear hy1
      go_wp2_with fail
      refine (unhide q _ _ (row3 (RowIs.new _ _ _) rfl)).mono ?_
      rintro e w4 ⟨⟨o4, rfl, h4⟩, hb4⟩
      have hb4' := (bAl (Below.refl W3.heap.size W3) _).trans (hb4.mono (by simp))
      replace HR := hide ((unhide HR).keep hb4')
      replace RA := hide ((unhide RA).keep hb4')
      replace RB := hide ((unhide RB).keep hb4')
      replace HB3 := hide (bTr (unhide HB3) hb4')
      have H4 := hide (h4.trans (unhide vt0).symm)
      have L1 : Hid (LitT K1) := hide ((unhide lt1).2 (unhide HY1))
      clear hb4 hb4' h4 x0 a0 b0 a1 b1 a2 b2 a3 b3 a4 b4 a5 b5 a6 b6 a7 b7 zx za zb2
      have x0 := (unhide HR).at (o := 0) (v := .int .i64 12) (by rw [← unhide HK]; rfl)
      have a0 := (unhide RA).at (o := 0) (v := .int .i64 Y0.f0) rfl
      have a1 := (unhide RA).at (o := 1) (v := .string Y0.f1) rfl
      have a2 := (unhide RA).at (o := 2) (v := .int .i64 Y0.f2) rfl
      have a3 := (unhide RA).at (o := 3) (v := .int .i64 Y0.f3) rfl
      have a4 := (unhide RA).at (o := 4) (v := .string Y0.f4) rfl
      have a5 := (unhide RA).at (o := 5) (v := .string Y0.f5) rfl
      have a6 := (unhide RA).at (o := 6) (v := .int .i64 Y0.f6) rfl
      have a7 := (unhide RA).at (o := 7) (v := .slice sa sn sc) rfl
      have b0 := (unhide RB).at (o := 0) (v := .int .i64 Y1.f0) rfl
      have b1 := (unhide RB).at (o := 1) (v := .string Y1.f1) rfl
      have b2 := (unhide RB).at (o := 2) (v := .int .i64 Y1.f2) rfl
      have b3 := (unhide RB).at (o := 3) (v := .int .i64 Y1.f3) rfl
      have b4 := (unhide RB).at (o := 4) (v := .string Y1.f4) rfl
      have b5 := (unhide RB).at (o := 5) (v := .string Y1.f5) rfl
      have b6 := (unhide RB).at (o := 6) (v := .int .i64 Y1.f6) rfl
      have b7 := (unhide RB).at (o := 7) (v := .slice ta tn tc) rfl
      have zx := (unhide HR).lt
      have za := (unhide RA).lt
      have zb2 := (unhide RB).lt
      have hA : Hid (P ↔ (PA ∨ (PathT K1 ∧ Y0.f0 = 1))) := hide ((unhide hP2).trans (by unfold PairN; simp [unhide L1, ← unhide hPA, unhide lt0]))
      cases o4
      all_goals clear H4
      · skip
        go_wp2_with fail
        refine (unhide qa _ (unhide HB3)).mono ?_
        rintro e w5 ⟨⟨o5, rfl, h5⟩, hb5⟩
        replace HR := hide ((unhide HR).keep hb5)
        replace RA := hide ((unhide RA).keep hb5)
        replace RB := hide ((unhide RB).keep hb5)
        replace HB3 := hide (bTr (unhide HB3) hb5)
        have H5 := hide h5
        clear hb5 h5 x0 a0 b0 a1 b1 a2 b2 a3 b3 a4 b4 a5 b5 a6 b6 a7 b7 zx za zb2
        have x0 := (unhide HR).at (o := 0) (v := .int .i64 12) (by rw [← unhide HK]; rfl)
        have a0 := (unhide RA).at (o := 0) (v := .int .i64 Y0.f0) rfl
        have a1 := (unhide RA).at (o := 1) (v := .string Y0.f1) rfl
        have a2 := (unhide RA).at (o := 2) (v := .int .i64 Y0.f2) rfl
        have a3 := (unhide RA).at (o := 3) (v := .int .i64 Y0.f3) rfl
        have a4 := (unhide RA).at (o := 4) (v := .string Y0.f4) rfl
        have a5 := (unhide RA).at (o := 5) (v := .string Y0.f5) rfl
        have a6 := (unhide RA).at (o := 6) (v := .int .i64 Y0.f6) rfl
        have a7 := (unhide RA).at (o := 7) (v := .slice sa sn sc) rfl
        have b0 := (unhide RB).at (o := 0) (v := .int .i64 Y1.f0) rfl
        have b1 := (unhide RB).at (o := 1) (v := .string Y1.f1) rfl
        have b2 := (unhide RB).at (o := 2) (v := .int .i64 Y1.f2) rfl
        have b3 := (unhide RB).at (o := 3) (v := .int .i64 Y1.f3) rfl
        have b4 := (unhide RB).at (o := 4) (v := .string Y1.f4) rfl
        have b5 := (unhide RB).at (o := 5) (v := .string Y1.f5) rfl
        have b6 := (unhide RB).at (o := 6) (v := .int .i64 Y1.f6) rfl
        have b7 := (unhide RB).at (o := 7) (v := .slice ta tn tc) rfl
        have zx := (unhide HR).lt
        have za := (unhide RA).lt
        have zb2 := (unhide RB).lt
        cases o5 with
        | true =>
          have yes : Hid P := hide ((unhide hA).2 (.inl ((unhide H5).1 rfl)))
          clear hA H5
          go_wp2_with fail
          go_ret
          exact ⟨retB (b := true) ⟨fun _ => unhide yes, fun _ => rfl⟩, unhide HB3⟩
        | false =>
          have hQ : Hid (P ↔ (PathT K1 ∧ Y0.f0 = 1)) := hide ((unhide hA).trans ⟨fun h => h.resolve_left (fun g => by have := (unhide H5).2 g; cases this), .inr⟩)
          clear hA H5
          go_wp2_with fail
          refine (unhide qb _ (unhide HB3)).mono ?_
          rintro e w6 ⟨⟨o6, rfl, h6⟩, hb6⟩
          replace HR := hide ((unhide HR).keep hb6)
          replace RA := hide ((unhide RA).keep hb6)
          replace RB := hide ((unhide RB).keep hb6)
          replace HB3 := hide (bTr (unhide HB3) hb6)
          have H6 := hide h6
          clear hb6 h6 x0 a0 b0 a1 b1 a2 b2 a3 b3 a4 b4 a5 b5 a6 b6 a7 b7 zx za zb2
          have x0 := (unhide HR).at (o := 0) (v := .int .i64 12) (by rw [← unhide HK]; rfl)
          have a0 := (unhide RA).at (o := 0) (v := .int .i64 Y0.f0) rfl
          have a1 := (unhide RA).at (o := 1) (v := .string Y0.f1) rfl
          have a2 := (unhide RA).at (o := 2) (v := .int .i64 Y0.f2) rfl
          have a3 := (unhide RA).at (o := 3) (v := .int .i64 Y0.f3) rfl
          have a4 := (unhide RA).at (o := 4) (v := .string Y0.f4) rfl
          have a5 := (unhide RA).at (o := 5) (v := .string Y0.f5) rfl
          have a6 := (unhide RA).at (o := 6) (v := .int .i64 Y0.f6) rfl
          have a7 := (unhide RA).at (o := 7) (v := .slice sa sn sc) rfl
          have b0 := (unhide RB).at (o := 0) (v := .int .i64 Y1.f0) rfl
          have b1 := (unhide RB).at (o := 1) (v := .string Y1.f1) rfl
          have b2 := (unhide RB).at (o := 2) (v := .int .i64 Y1.f2) rfl
          have b3 := (unhide RB).at (o := 3) (v := .int .i64 Y1.f3) rfl
          have b4 := (unhide RB).at (o := 4) (v := .string Y1.f4) rfl
          have b5 := (unhide RB).at (o := 5) (v := .string Y1.f5) rfl
          have b6 := (unhide RB).at (o := 6) (v := .int .i64 Y1.f6) rfl
          have b7 := (unhide RB).at (o := 7) (v := .slice ta tn tc) rfl
          have zx := (unhide HR).lt
          have za := (unhide RA).lt
          have zb2 := (unhide RB).lt
          cases o6 with
          | false =>
            have no : Hid (¬ P) := hide (fun h => by have := (unhide H6).2 ((unhide hQ).1 h).1; cases this)
            clear hQ H6
            go_wp2_with fail
            go_ret
            exact ⟨retB (b := false) ⟨fun h => (by cases h), fun h => absurd h (unhide no)⟩, unhide HB3⟩
          | true =>
            have hQ2 : Hid (P ↔ Y0.f0 = 1) := hide ((unhide hQ).trans ⟨fun h => h.2, fun h => ⟨(unhide H6).1 rfl, h⟩⟩)
            clear hQ H6
            by_cases hy : Y0.f0 = 1
            · have yes : Hid P := hide ((unhide hQ2).2 hy)
              rw [hy] at a0
              clear hQ2 hy
              go_wp2_with fail
              go_ret
              exact ⟨retB (b := true) ⟨fun _ => unhide yes, fun _ => rfl⟩, unhide HB3⟩
            · have no : Hid (¬ P) := hide (fun h => hy ((unhide hQ2).1 h))
              have dy : (Y0.f0 == 1) = false := by simpa using hy
              clear hQ2
              go_wp2_with fail
              go_ret
              exact ⟨retB (b := false) ⟨fun h => (by cases h), fun h => absurd h (unhide no)⟩, unhide HB3⟩
      · skip
        go_wp2_with fail
        refine (unhide qa _ (unhide HB3)).mono ?_
        rintro e w5 ⟨⟨o5, rfl, h5⟩, hb5⟩
        replace HR := hide ((unhide HR).keep hb5)
        replace RA := hide ((unhide RA).keep hb5)
        replace RB := hide ((unhide RB).keep hb5)
        replace HB3 := hide (bTr (unhide HB3) hb5)
        have H5 := hide h5
        clear hb5 h5 x0 a0 b0 a1 b1 a2 b2 a3 b3 a4 b4 a5 b5 a6 b6 a7 b7 zx za zb2
        have x0 := (unhide HR).at (o := 0) (v := .int .i64 12) (by rw [← unhide HK]; rfl)
        have a0 := (unhide RA).at (o := 0) (v := .int .i64 Y0.f0) rfl
        have a1 := (unhide RA).at (o := 1) (v := .string Y0.f1) rfl
        have a2 := (unhide RA).at (o := 2) (v := .int .i64 Y0.f2) rfl
        have a3 := (unhide RA).at (o := 3) (v := .int .i64 Y0.f3) rfl
        have a4 := (unhide RA).at (o := 4) (v := .string Y0.f4) rfl
        have a5 := (unhide RA).at (o := 5) (v := .string Y0.f5) rfl
        have a6 := (unhide RA).at (o := 6) (v := .int .i64 Y0.f6) rfl
        have a7 := (unhide RA).at (o := 7) (v := .slice sa sn sc) rfl
        have b0 := (unhide RB).at (o := 0) (v := .int .i64 Y1.f0) rfl
        have b1 := (unhide RB).at (o := 1) (v := .string Y1.f1) rfl
        have b2 := (unhide RB).at (o := 2) (v := .int .i64 Y1.f2) rfl
        have b3 := (unhide RB).at (o := 3) (v := .int .i64 Y1.f3) rfl
        have b4 := (unhide RB).at (o := 4) (v := .string Y1.f4) rfl
        have b5 := (unhide RB).at (o := 5) (v := .string Y1.f5) rfl
        have b6 := (unhide RB).at (o := 6) (v := .int .i64 Y1.f6) rfl
        have b7 := (unhide RB).at (o := 7) (v := .slice ta tn tc) rfl
        have zx := (unhide HR).lt
        have za := (unhide RA).lt
        have zb2 := (unhide RB).lt
        cases o5 with
        | true =>
          have yes : Hid P := hide ((unhide hA).2 (.inl ((unhide H5).1 rfl)))
          clear hA H5
          go_wp2_with fail
          go_ret
          exact ⟨retB (b := true) ⟨fun _ => unhide yes, fun _ => rfl⟩, unhide HB3⟩
        | false =>
          have hQ : Hid (P ↔ (PathT K1 ∧ Y0.f0 = 1)) := hide ((unhide hA).trans ⟨fun h => h.resolve_left (fun g => by have := (unhide H5).2 g; cases this), .inr⟩)
          clear hA H5
          go_wp2_with fail
          refine (unhide qb _ (unhide HB3)).mono ?_
          rintro e w6 ⟨⟨o6, rfl, h6⟩, hb6⟩
          replace HR := hide ((unhide HR).keep hb6)
          replace RA := hide ((unhide RA).keep hb6)
          replace RB := hide ((unhide RB).keep hb6)
          replace HB3 := hide (bTr (unhide HB3) hb6)
          have H6 := hide h6
          clear hb6 h6 x0 a0 b0 a1 b1 a2 b2 a3 b3 a4 b4 a5 b5 a6 b6 a7 b7 zx za zb2
          have x0 := (unhide HR).at (o := 0) (v := .int .i64 12) (by rw [← unhide HK]; rfl)
          have a0 := (unhide RA).at (o := 0) (v := .int .i64 Y0.f0) rfl
          have a1 := (unhide RA).at (o := 1) (v := .string Y0.f1) rfl
          have a2 := (unhide RA).at (o := 2) (v := .int .i64 Y0.f2) rfl
          have a3 := (unhide RA).at (o := 3) (v := .int .i64 Y0.f3) rfl
          have a4 := (unhide RA).at (o := 4) (v := .string Y0.f4) rfl
          have a5 := (unhide RA).at (o := 5) (v := .string Y0.f5) rfl
          have a6 := (unhide RA).at (o := 6) (v := .int .i64 Y0.f6) rfl
          have a7 := (unhide RA).at (o := 7) (v := .slice sa sn sc) rfl
          have b0 := (unhide RB).at (o := 0) (v := .int .i64 Y1.f0) rfl
          have b1 := (unhide RB).at (o := 1) (v := .string Y1.f1) rfl
          have b2 := (unhide RB).at (o := 2) (v := .int .i64 Y1.f2) rfl
          have b3 := (unhide RB).at (o := 3) (v := .int .i64 Y1.f3) rfl
          have b4 := (unhide RB).at (o := 4) (v := .string Y1.f4) rfl
          have b5 := (unhide RB).at (o := 5) (v := .string Y1.f5) rfl
          have b6 := (unhide RB).at (o := 6) (v := .int .i64 Y1.f6) rfl
          have b7 := (unhide RB).at (o := 7) (v := .slice ta tn tc) rfl
          have zx := (unhide HR).lt
          have za := (unhide RA).lt
          have zb2 := (unhide RB).lt
          cases o6 with
          | false =>
            have no : Hid (¬ P) := hide (fun h => by have := (unhide H6).2 ((unhide hQ).1 h).1; cases this)
            clear hQ H6
            go_wp2_with fail
            go_ret
            exact ⟨retB (b := false) ⟨fun h => (by cases h), fun h => absurd h (unhide no)⟩, unhide HB3⟩
          | true =>
            have hQ2 : Hid (P ↔ Y0.f0 = 1) := hide ((unhide hQ).trans ⟨fun h => h.2, fun h => ⟨(unhide H6).1 rfl, h⟩⟩)
            clear hQ H6
            by_cases hy : Y0.f0 = 1
            · have yes : Hid P := hide ((unhide hQ2).2 hy)
              rw [hy] at a0
              clear hQ2 hy
              go_wp2_with fail
              go_ret
              exact ⟨retB (b := true) ⟨fun _ => unhide yes, fun _ => rfl⟩, unhide HB3⟩
            · have no : Hid (¬ P) := hide (fun h => hy ((unhide hQ2).1 h))
              have dy : (Y0.f0 == 1) = false := by simpa using hy
              clear hQ2
              go_wp2_with fail
              go_ret
              exact ⟨retB (b := false) ⟨fun h => (by cases h), fun h => absurd h (unhide no)⟩, unhide HB3⟩
    · have dy1 : (Y1.f0 == 1) = false := by simpa using hy1
      have L1 : Hid (¬ LitT K1) := hide (fun h => hy1 ((unhide lt1).1 h))
      have hQ : Hid (P ↔ (PathT K1 ∧ Y0.f0 = 1)) := hide ((unhide hP2).trans (by unfold PairN; simp [unhide L1, unhide lt0]))
      go_wp2_with fail
      refine (unhide qb _ (unhide HB3)).mono ?_
      rintro e w6 ⟨⟨o6, rfl, h6⟩, hb6⟩
      replace HR := hide ((unhide HR).keep hb6)
      replace RA := hide ((unhide RA).keep hb6)
      replace RB := hide ((unhide RB).keep hb6)
      replace HB3 := hide (bTr (unhide HB3) hb6)
      have H6 := hide h6
      clear hb6 h6 x0 a0 b0 a1 b1 a2 b2 a3 b3 a4 b4 a5 b5 a6 b6 a7 b7 zx za zb2
      have x0 := (unhide HR).at (o := 0) (v := .int .i64 12) (by rw [← unhide HK]; rfl)
      have a0 := (unhide RA).at (o := 0) (v := .int .i64 Y0.f0) rfl
      have a1 := (unhide RA).at (o := 1) (v := .string Y0.f1) rfl
      have a2 := (unhide RA).at (o := 2) (v := .int .i64 Y0.f2) rfl
      have a3 := (unhide RA).at (o := 3) (v := .int .i64 Y0.f3) rfl
      have a4 := (unhide RA).at (o := 4) (v := .string Y0.f4) rfl
      have a5 := (unhide RA).at (o := 5) (v := .string Y0.f5) rfl
      have a6 := (unhide RA).at (o := 6) (v := .int .i64 Y0.f6) rfl
      have a7 := (unhide RA).at (o := 7) (v := .slice sa sn sc) rfl
      have b0 := (unhide RB).at (o := 0) (v := .int .i64 Y1.f0) rfl
      have b1 := (unhide RB).at (o := 1) (v := .string Y1.f1) rfl
      have b2 := (unhide RB).at (o := 2) (v := .int .i64 Y1.f2) rfl
      have b3 := (unhide RB).at (o := 3) (v := .int .i64 Y1.f3) rfl
      have b4 := (unhide RB).at (o := 4) (v := .string Y1.f4) rfl
      have b5 := (unhide RB).at (o := 5) (v := .string Y1.f5) rfl
      have b6 := (unhide RB).at (o := 6) (v := .int .i64 Y1.f6) rfl
      have b7 := (unhide RB).at (o := 7) (v := .slice ta tn tc) rfl
      have zx := (unhide HR).lt
      have za := (unhide RA).lt
      have zb2 := (unhide RB).lt
      cases o6 with
      | false =>
        have no : Hid (¬ P) := hide (fun h => by have := (unhide H6).2 ((unhide hQ).1 h).1; cases this)
        clear hQ H6
        go_wp2_with fail
        go_ret
        exact ⟨retB (b := false) ⟨fun h => (by cases h), fun h => absurd h (unhide no)⟩, unhide HB3⟩
      | true =>
        have hQ2 : Hid (P ↔ Y0.f0 = 1) := hide ((unhide hQ).trans ⟨fun h => h.2, fun h => ⟨(unhide H6).1 rfl, h⟩⟩)
        clear hQ H6
        by_cases hy : Y0.f0 = 1
        · have yes : Hid P := hide ((unhide hQ2).2 hy)
          rw [hy] at a0
          clear hQ2 hy
          go_wp2_with fail
          go_ret
          exact ⟨retB (b := true) ⟨fun _ => unhide yes, fun _ => rfl⟩, unhide HB3⟩
        · have no : Hid (¬ P) := hide (fun h => hy ((unhide hQ2).1 h))
          have dy : (Y0.f0 == 1) = false := by simpa using hy
          clear hQ2
          go_wp2_with fail
          go_ret
          exact ⟨retB (b := false) ⟨fun h => (by cases h), fun h => absurd h (unhide no)⟩, unhide HB3⟩
set_option maxRecDepth 20000 in
set_option maxHeartbeats 2000000 in
theorem right_pair13 (P : Prop) (r : Nat) (w : World) (lo : Nat) (x : ExprT) (ks : List ET) (a : Option Addr) (cap : Nat)  (h : TrAt (r + 1) w lo (.slice a ks.length cap) (.node x ks)) (hf : Fit (.node x ks)) (hk : x.f0 = 13) (hP : Hid (P ↔ PairN x.f0 (ks.getD 0 zT) (ks.getD 1 zT))) :
    Calls Tryz.prog 14 #[agg8 x (.slice a ks.length cap)] w fun e w' => RetB e P ∧ Below w.heap.size w w' := by
  have hl : ks.length = 2 := by have := hf.len (by omega); rw [hk] at this; simp [ari] at this; omega
  obtain ⟨b, cap', sa, sn, sc, es, hlo, hb, gc, htc⟩ := h.kid 0 (by omega)
  cases es
  obtain ⟨b', cap', ta, tn, tc, es, _, _, gd, htd⟩ := h.kid 1 (by omega)
  cases es
  have f0 : Fit ks[0] := hf.out.2.2.1 _ (List.getElem_mem _)
  have f1 : Fit ks[1] := hf.out.2.2.1 _ (List.getElem_mem _)
  have qa := hide (fun (w' : World) (hb : Below w.heap.size w w') => l14Path_t htc f0 w' hb)
  have qb := hide (fun (w' : World) (hb : Below w.heap.size w w') => l14Path_t htd f1 w' hb)
  have hP2 : Hid (P ↔ PairN x.f0 ks[0] ks[1]) := hide (by
    rw [unhide hP, List.getD_eq_getElem?_getD, List.getD_eq_getElem?_getD, List.getElem?_eq_getElem (by omega), List.getElem?_eq_getElem (by omega)]; rfl)
  clear hP
  have lt0 : Hid (LitT ks[0] ↔ ks[0].n.f0 = 1) := hide Iff.rfl
  have lt1 : Hid (LitT ks[1] ↔ ks[1].n.f0 = 1) := hide Iff.rfl
  have vt0 : Hid (VarT [bPri, bRes, bAct] ks[0] ↔ (ks[0].n.f0 = 3 ∧ ks[0].n.f1 ∈ [bPri, bRes, bAct])) := hide Iff.rfl
  obtain ⟨PA, ePA⟩ : ∃ PA, PathT ks[0] = PA := ⟨_, rfl⟩
  rw [ePA] at qa
  have hPA : Hid (PA ↔ PathT ks[0]) := hide (by rw [ePA])
  clear ePA
  obtain ⟨W, hW⟩ : ∃ W, W = w.alloc (.cells (row8 x (.slice (some ⟨b, 0, none⟩) ks.length cap)) 47) := ⟨_, rfl⟩
  have BW : Below w.heap.size w W := by rw [hW]; exact bAl (Below.refl _ _) _
  have RW : RowIs W w.heap.size (row8 x (.slice (some ⟨b, 0, none⟩) ks.length cap)) 47 := by rw [hW]; exact RowIs.new _ _ _
  generalize ks[0] = K0 at *
  generalize ks[1] = K1 at *
  generalize K0.n = Y0 at *
  generalize K1.n = Y1 at *
  simp only [Nat.zero_mul, Nat.one_mul] at gc gd
  have c0 := cellB BW hb gc.c0
  have c1 := cellB BW hb gc.c1
  have c2 := cellB BW hb gc.c2
  have c3 := cellB BW hb gc.c3
  have c4 := cellB BW hb gc.c4
  have c5 := cellB BW hb gc.c5
  have c6 := cellB BW hb gc.c6
  have c7 := cellB BW hb gc.c7
  have d0 := cellB BW hb gd.c0
  have d1 := cellB BW hb gd.c1
  have d2 := cellB BW hb gd.c2
  have d3 := cellB BW hb gd.c3
  have d4 := cellB BW hb gd.c4
  have d5 := cellB BW hb gd.c5
  have d6 := cellB BW hb gd.c6
  have d7 := cellB BW hb gd.c7
  have x0 := RW.at (o := 0) (v := .int .i64 x.f0) rfl
  have x7 := RW.at (o := 7) (v := .slice (some ⟨b, 0, none⟩) ks.length cap) rfl
  have zb : b < W.heap.size := Nat.lt_of_lt_of_le hb BW.size
  rw [hl] at *
  have HBW := hide BW
  have HW := hide hW.symm
  have HR := hide RW
  have q := hide (fun (w1 : World) (a : Option Addr) (hs : SlS w1 a 3 [bPri, bRes, bAct]) => l14V_any Y0 sa sn sc a 3 3 [bPri, bRes, bAct] w1 (by decide) hs)
  clear gc gd htc htd h hf hW BW RW hlo f0 f1 hl
  have hxk := hk.symm
  rw [hk] at hP2 x0
  clear hk
  have HXK := hide hxk
  clear hxk
  go_enter Tryz.func14, Tryz.ntmps14
  go_upto_region 1 with fail
  rw [unhide HW]
  generalize agg8 x (.slice (some ⟨b, 0, none⟩) 2 cap) = V0
  · have HK : Hid (x.f0 = 13) := hide (unhide HXK).symm
    clear HXK
    go_upto_region 27 with fail
    obtain ⟨W2, hW2⟩ : ∃ X, X = W.alloc (.cells (row8 Y0 (.slice sa sn sc)) 47) := ⟨_, rfl⟩
    have b2 : Below W.heap.size W W2 := by rw [hW2]; exact bAl (Below.refl _ _) _
    have RA := hide (show RowIs W2 W.heap.size (row8 Y0 (.slice sa sn sc)) 47 by rw [hW2]; exact RowIs.new _ _ _)
    have s2 : W2.heap.size = W.heap.size + 1 := by rw [hW2]; simp
    rw [← hW2]
    replace HR := hide ((unhide HR).keep b2)
    have HB2 := hide (bTr (unhide HBW) b2)
    have x7 := (unhide HR).at (o := 7) (v := .slice (some ⟨b, 0, none⟩) 2 cap) rfl
    replace d0 := cellB b2 zb d0
    replace d1 := cellB b2 zb d1
    replace d2 := cellB b2 zb d2
    replace d3 := cellB b2 zb d3
    replace d4 := cellB b2 zb d4
    replace d5 := cellB b2 zb d5
    replace d6 := cellB b2 zb d6
    replace d7 := cellB b2 zb d7
    have zb' : b < W2.heap.size := Nat.lt_of_lt_of_le zb b2.size
    clear hW2 b2 x0 c0 c1 c2 c3 c4 c5 c6 c7 zb
    go_upto_region 28 with fail
    obtain ⟨W3, hW3⟩ : ∃ X, X = W2.alloc (.cells (row8 Y1 (.slice ta tn tc)) 47) := ⟨_, rfl⟩
    have b3 : Below W2.heap.size W2 W3 := by rw [hW3]; exact bAl (Below.refl _ _) _
    have RB := hide (show RowIs W3 (W.heap.size + 1) (row8 Y1 (.slice ta tn tc)) 47 by rw [hW3, ← s2]; exact RowIs.new _ _ _)
    rw [← hW3]
    replace HR := hide ((unhide HR).keep b3)
    replace RA := hide ((unhide RA).keep b3)
    have HB3 := hide (bTr (unhide HB2) b3)
    clear hW3 b3 d0 d1 d2 d3 d4 d5 d6 d7 x7 zb' HB2
    clear s2
    have x0 := (unhide HR).at (o := 0) (v := .int .i64 13) (by rw [← unhide HK]; rfl)
    have a0 := (unhide RA).at (o := 0) (v := .int .i64 Y0.f0) rfl
    have a1 := (unhide RA).at (o := 1) (v := .string Y0.f1) rfl
    have a2 := (unhide RA).at (o := 2) (v := .int .i64 Y0.f2) rfl
    have a3 := (unhide RA).at (o := 3) (v := .int .i64 Y0.f3) rfl
    have a4 := (unhide RA).at (o := 4) (v := .string Y0.f4) rfl
    have a5 := (unhide RA).at (o := 5) (v := .string Y0.f5) rfl
    have a6 := (unhide RA).at (o := 6) (v := .int .i64 Y0.f6) rfl
    have a7 := (unhide RA).at (o := 7) (v := .slice sa sn sc) rfl
    have b0 := (unhide RB).at (o := 0) (v := .int .i64 Y1.f0) rfl
    have b1 := (unhide RB).at (o := 1) (v := .string Y1.f1) rfl
    have b2 := (unhide RB).at (o := 2) (v := .int .i64 Y1.f2) rfl
    have b3 := (unhide RB).at (o := 3) (v := .int .i64 Y1.f3) rfl
    have b4 := (unhide RB).at (o := 4) (v := .string Y1.f4) rfl
    have b5 := (unhide RB).at (o := 5) (v := .string Y1.f5) rfl
    have b6 := (unhide RB).at (o := 6) (v := .int .i64 Y1.f6) rfl
    have b7 := (unhide RB).at (o := 7) (v := .slice ta tn tc) rfl
    have zx := (unhide HR).lt
    have za := (unhide RA).lt
    have zb2 := (unhide RB).lt
    by_cases hy1 : Y1.f0 = 1
    · rw [hy1] at b0
      have HY1 := hide hy1
      clear hy1
      go_wp2_with fail
      refine (unhide q _ _ (row3 (RowIs.new _ _ _) rfl)).mono ?_
      rintro e w4 ⟨⟨o4, rfl, h4⟩, hb4⟩
      have hb4' := (bAl (Below.refl W3.heap.size W3) _).trans (hb4.mono (by simp))
      replace HR := hide ((unhide HR).keep hb4')
      replace RA := hide ((unhide RA).keep hb4')
      replace RB := hide ((unhide RB).keep hb4')
      replace HB3 := hide (bTr (unhide HB3) hb4')
      have H4 := hide (h4.trans (unhide vt0).symm)
      have L1 : Hid (LitT K1) := hide ((unhide lt1).2 (unhide HY1))
      clear hb4 hb4' h4 x0 a0 b0 a1 b1 a2 b2 a3 b3 a4 b4 a5 b5 a6 b6 a7 b7 zx za zb2
      have x0 := (unhide HR).at (o := 0) (v := .int .i64 13) (by rw [← unhide HK]; rfl)
      have a0 := (unhide RA).at (o := 0) (v := .int .i64 Y0.f0) rfl
      have a1 := (unhide RA).at (o := 1) (v := .string Y0.f1) rfl
      have a2 := (unhide RA).at (o := 2) (v := .int .i64 Y0.f2) rfl
      have a3 := (unhide RA).at (o := 3) (v := .int .i64 Y0.f3) rfl
      have a4 := (unhide RA).at (o := 4) (v := .string Y0.f4) rfl
      have a5 := (unhide RA).at (o := 5) (v := .string Y0.f5) rfl
      have a6 := (unhide RA).at (o := 6) (v := .int .i64 Y0.f6) rfl
      have a7 := (unhide RA).at (o := 7) (v := .slice sa sn sc) rfl
      have b0 := (unhide RB).at (o := 0) (v := .int .i64 Y1.f0) rfl
      have b1 := (unhide RB).at (o := 1) (v := .string Y1.f1) rfl
      have b2 := (unhide RB).at (o := 2) (v := .int .i64 Y1.f2) rfl
      have b3 := (unhide RB).at (o := 3) (v := .int .i64 Y1.f3) rfl
      have b4 := (unhide RB).at (o := 4) (v := .string Y1.f4) rfl
      have b5 := (unhide RB).at (o := 5) (v := .string Y1.f5) rfl
      have b6 := (unhide RB).at (o := 6) (v := .int .i64 Y1.f6) rfl
      have b7 := (unhide RB).at (o := 7) (v := .slice ta tn tc) rfl
      have zx := (unhide HR).lt
      have za := (unhide RA).lt
      have zb2 := (unhide RB).lt
      have hA : Hid (P ↔ (PA ∨ (PathT K1 ∧ Y0.f0 = 1))) := hide ((unhide hP2).trans (by unfold PairN; simp [unhide L1, ← unhide hPA, unhide lt0]))
      cases o4
      all_goals clear H4
      · skip
        go_wp2_with fail
        refine (unhide qa _ (unhide HB3)).mono ?_
        rintro e w5 ⟨⟨o5, rfl, h5⟩, hb5⟩
        replace HR := hide ((unhide HR).keep hb5)
        replace RA := hide ((unhide RA).keep hb5)
        replace RB := hide ((unhide RB).keep hb5)
        replace HB3 := hide (bTr (unhide HB3) hb5)
        have H5 := hide h5
        clear hb5 h5 x0 a0 b0 a1 b1 a2 b2 a3 b3 a4 b4 a5 b5 a6 b6 a7 b7 zx za zb2
        have x0 := (unhide HR).at (o := 0) (v := .int .i64 13) (by rw [← unhide HK]; rfl)
        have a0 := (unhide RA).at (o := 0) (v := .int .i64 Y0.f0) rfl
        have a1 := (unhide RA).at (o := 1) (v := .string Y0.f1) rfl
        have a2 := (unhide RA).at (o := 2) (v := .int .i64 Y0.f2) rfl
        have a3 := (unhide RA).at (o := 3) (v := .int .i64 Y0.f3) rfl
        have a4 := (unhide RA).at (o := 4) (v := .string Y0.f4) rfl
        have a5 := (unhide RA).at (o := 5) (v := .string Y0.f5) rfl
        have a6 := (unhide RA).at (o := 6) (v := .int .i64 Y0.f6) rfl
        have a7 := (unhide RA).at (o := 7) (v := .slice sa sn sc) rfl
        have b0 := (unhide RB).at (o := 0) (v := .int .i64 Y1.f0) rfl
        have b1 := (unhide RB).at (o := 1) (v := .string Y1.f1) rfl
        have b2 := (unhide RB).at (o := 2) (v := .int .i64 Y1.f2) rfl
        have b3 := (unhide RB).at (o := 3) (v := .int .i64 Y1.f3) rfl
        have b4 := (unhide RB).at (o := 4) (v := .string Y1.f4) rfl
        have b5 := (unhide RB).at (o := 5) (v := .string Y1.f5) rfl
        have b6 := (unhide RB).at (o := 6) (v := .int .i64 Y1.f6) rfl
        have b7 := (unhide RB).at (o := 7) (v := .slice ta tn tc) rfl
        have zx := (unhide HR).lt
        have za := (unhide RA).lt
        have zb2 := (unhide RB).lt
        cases o5 with
        | true =>
          have yes : Hid P := hide ((unhide hA).2 (.inl ((unhide H5).1 rfl)))
          clear hA H5
          go_wp2_with fail
          go_ret
          exact ⟨retB (b := true) ⟨fun _ => unhide yes, fun _ => rfl⟩, unhide HB3⟩
        | false =>
          have hQ : Hid (P ↔ (PathT K1 ∧ Y0.f0 = 1)) := hide ((unhide hA).trans ⟨fun h => h.resolve_left (fun g => by have := (unhide H5).2 g; cases this), .inr⟩)
          clear hA H5
          go_wp2_with fail
          refine (unhide qb _ (unhide HB3)).mono ?_
          rintro e w6 ⟨⟨o6, rfl, h6⟩, hb6⟩
          replace HR := hide ((unhide HR).keep hb6)
          replace RA := hide ((unhide RA).keep hb6)
          replace RB := hide ((unhide RB).keep hb6)
          replace HB3 := hide (bTr (unhide HB3) hb6)
          have H6 := hide h6
          clear hb6 h6 x0 a0 b0 a1 b1 a2 b2 a3 b3 a4 b4 a5 b5 a6 b6 a7 b7 zx za zb2
          have x0 := (unhide HR).at (o := 0) (v := .int .i64 13) (by rw [← unhide HK]; rfl)
          have a0 := (unhide RA).at (o := 0) (v := .int .i64 Y0.f0) rfl
          have a1 := (unhide RA).at (o := 1) (v := .string Y0.f1) rfl
          have a2 := (unhide RA).at (o := 2) (v := .int .i64 Y0.f2) rfl
          have a3 := (unhide RA).at (o := 3) (v := .int .i64 Y0.f3) rfl
          have a4 := (unhide RA).at (o := 4) (v := .string Y0.f4) rfl
          have a5 := (unhide RA).at (o := 5) (v := .string Y0.f5) rfl
          have a6 := (unhide RA).at (o := 6) (v := .int .i64 Y0.f6) rfl
          have a7 := (unhide RA).at (o := 7) (v := .slice sa sn sc) rfl
          have b0 := (unhide RB).at (o := 0) (v := .int .i64 Y1.f0) rfl
          have b1 := (unhide RB).at (o := 1) (v := .string Y1.f1) rfl
          have b2 := (unhide RB).at (o := 2) (v := .int .i64 Y1.f2) rfl
          have b3 := (unhide RB).at (o := 3) (v := .int .i64 Y1.f3) rfl
          have b4 := (unhide RB).at (o := 4) (v := .string Y1.f4) rfl
          have b5 := (unhide RB).at (o := 5) (v := .string Y1.f5) rfl
          have b6 := (unhide RB).at (o := 6) (v := .int .i64 Y1.f6) rfl
          have b7 := (unhide RB).at (o := 7) (v := .slice ta tn tc) rfl
          have zx := (unhide HR).lt
          have za := (unhide RA).lt
          have zb2 := (unhide RB).lt
          cases o6 with
          | false =>
            have no : Hid (¬ P) := hide (fun h => by have := (unhide H6).2 ((unhide hQ).1 h).1; cases this)
            clear hQ H6
            go_wp2_with fail
            go_ret
            exact ⟨retB (b := false) ⟨fun h => (by cases h), fun h => absurd h (unhide no)⟩, unhide HB3⟩
          | true =>
            have hQ2 : Hid (P ↔ Y0.f0 = 1) := hide ((unhide hQ).trans ⟨fun h => h.2, fun h => ⟨(unhide H6).1 rfl, h⟩⟩)
            clear hQ H6
            by_cases hy : Y0.f0 = 1
            · have yes : Hid P := hide ((unhide hQ2).2 hy)
              rw [hy] at a0
              clear hQ2 hy
              go_wp2_with fail
              go_ret
              exact ⟨retB (b := true) ⟨fun _ => unhide yes, fun _ => rfl⟩, unhide HB3⟩
            · have no : Hid (¬ P) := hide (fun h => hy ((unhide hQ2).1 h))
              have dy : (Y0.f0 == 1) = false := by simpa using hy
              clear hQ2
              go_wp2_with fail
              go_ret
              exact ⟨retB (b := false) ⟨fun h => (by cases h), fun h => absurd h (unhide no)⟩, unhide HB3⟩
      · skip
        go_wp2_with fail
        refine (unhide qa _ (unhide HB3)).mono ?_
        rintro e w5 ⟨⟨o5, rfl, h5⟩, hb5⟩
        replace HR := hide ((unhide HR).keep hb5)
        replace RA := hide ((unhide RA).keep hb5)
        replace RB := hide ((unhide RB).keep hb5)
        replace HB3 := hide (bTr (unhide HB3) hb5)
        have H5 := hide h5
        clear hb5 h5 x0 a0 b0 a1 b1 a2 b2 a3 b3 a4 b4 a5 b5 a6 b6 a7 b7 zx za zb2
        have x0 := (unhide HR).at (o := 0) (v := .int .i64 13) (by rw [← unhide HK]; rfl)
        have a0 := (unhide RA).at (o := 0) (v := .int .i64 Y0.f0) rfl
        have a1 := (unhide RA).at (o := 1) (v := .string Y0.f1) rfl
        have a2 := (unhide RA).at (o := 2) (v := .int .i64 Y0.f2) rfl
        have a3 := (unhide RA).at (o := 3) (v := .int .i64 Y0.f3) rfl
        have a4 := (unhide RA).at (o := 4) (v := .string Y0.f4) rfl
        have a5 := (unhide RA).at (o := 5) (v := .string Y0.f5) rfl
        have a6 := (unhide RA).at (o := 6) (v := .int .i64 Y0.f6) rfl
        have a7 := (unhide RA).at (o := 7) (v := .slice sa sn sc) rfl
        have b0 := (unhide RB).at (o := 0) (v := .int .i64 Y1.f0) rfl
        have b1 := (unhide RB).at (o := 1) (v := .string Y1.f1) rfl
        have b2 := (unhide RB).at (o := 2) (v := .int .i64 Y1.f2) rfl
        have b3 := (unhide RB).at (o := 3) (v := .int .i64 Y1.f3) rfl
        have b4 := (unhide RB).at (o := 4) (v := .string Y1.f4) rfl
        have b5 := (unhide RB).at (o := 5) (v := .string Y1.f5) rfl
        have b6 := (unhide RB).at (o := 6) (v := .int .i64 Y1.f6) rfl
        have b7 := (unhide RB).at (o := 7) (v := .slice ta tn tc) rfl
        have zx := (unhide HR).lt
        have za := (unhide RA).lt
        have zb2 := (unhide RB).lt
        cases o5 with
        | true =>
          have yes : Hid P := hide ((unhide hA).2 (.inl ((unhide H5).1 rfl)))
          clear hA H5
          go_wp2_with fail
          go_ret
          exact ⟨retB (b := true) ⟨fun _ => unhide yes, fun _ => rfl⟩, unhide HB3⟩
        | false =>
          have hQ : Hid (P ↔ (PathT K1 ∧ Y0.f0 = 1)) := hide ((unhide hA).trans ⟨fun h => h.resolve_left (fun g => by have := (unhide H5).2 g; cases this), .inr⟩)
          clear hA H5
          go_wp2_with fail
          refine (unhide qb _ (unhide HB3)).mono ?_
          rintro e w6 ⟨⟨o6, rfl, h6⟩, hb6⟩
          replace HR := hide ((unhide HR).keep hb6)
          replace RA := hide ((unhide RA).keep hb6)
          replace RB := hide ((unhide RB).keep hb6)
          replace HB3 := hide (bTr (unhide HB3) hb6)
          have H6 := hide h6
          clear hb6 h6 x0 a0 b0 a1 b1 a2 b2 a3 b3 a4 b4 a5 b5 a6 b6 a7 b7 zx za zb2
          have x0 := (unhide HR).at (o := 0) (v := .int .i64 13) (by rw [← unhide HK]; rfl)
          have a0 := (unhide RA).at (o := 0) (v := .int .i64 Y0.f0) rfl
          have a1 := (unhide RA).at (o := 1) (v := .string Y0.f1) rfl
          have a2 := (unhide RA).at (o := 2) (v := .int .i64 Y0.f2) rfl
          have a3 := (unhide RA).at (o := 3) (v := .int .i64 Y0.f3) rfl
          have a4 := (unhide RA).at (o := 4) (v := .string Y0.f4) rfl
          have a5 := (unhide RA).at (o := 5) (v := .string Y0.f5) rfl
          have a6 := (unhide RA).at (o := 6) (v := .int .i64 Y0.f6) rfl
          have a7 := (unhide RA).at (o := 7) (v := .slice sa sn sc) rfl
          have b0 := (unhide RB).at (o := 0) (v := .int .i64 Y1.f0) rfl
          have b1 := (unhide RB).at (o := 1) (v := .string Y1.f1) rfl
          have b2 := (unhide RB).at (o := 2) (v := .int .i64 Y1.f2) rfl
          have b3 := (unhide RB).at (o := 3) (v := .int .i64 Y1.f3) rfl
          have b4 := (unhide RB).at (o := 4) (v := .string Y1.f4) rfl
          have b5 := (unhide RB).at (o := 5) (v := .string Y1.f5) rfl
          have b6 := (unhide RB).at (o := 6) (v := .int .i64 Y1.f6) rfl
          have b7 := (unhide RB).at (o := 7) (v := .slice ta tn tc) rfl
          have zx := (unhide HR).lt
          have za := (unhide RA).lt
          have zb2 := (unhide RB).lt
          cases o6 with
          | false =>
            have no : Hid (¬ P) := hide (fun h => by have := (unhide H6).2 ((unhide hQ).1 h).1; cases this)
            clear hQ H6
            go_wp2_with fail
            go_ret
            exact ⟨retB (b := false) ⟨fun h => (by cases h), fun h => absurd h (unhide no)⟩, unhide HB3⟩
          | true =>
            have hQ2 : Hid (P ↔ Y0.f0 = 1) := hide ((unhide hQ).trans ⟨fun h => h.2, fun h => ⟨(unhide H6).1 rfl, h⟩⟩)
            clear hQ H6
            by_cases hy : Y0.f0 = 1
            · have yes : Hid P := hide ((unhide hQ2).2 hy)
              rw [hy] at a0
              clear hQ2 hy
              go_wp2_with fail
              go_ret
              exact ⟨retB (b := true) ⟨fun _ => unhide yes, fun _ => rfl⟩, unhide HB3⟩
            · have no : Hid (¬ P) := hide (fun h => hy ((unhide hQ2).1 h))
              have dy : (Y0.f0 == 1) = false := by simpa using hy
              clear hQ2
              go_wp2_with fail
              go_ret
              exact ⟨retB (b := false) ⟨fun h => (by cases h), fun h => absurd h (unhide no)⟩, unhide HB3⟩
    · have dy1 : (Y1.f0 == 1) = false := by simpa using hy1
      have L1 : Hid (¬ LitT K1) := hide (fun h => hy1 ((unhide lt1).1 h))
      have hQ : Hid (P ↔ (PathT K1 ∧ Y0.f0 = 1)) := hide ((unhide hP2).trans (by unfold PairN; simp [unhide L1, unhide lt0]))
      go_wp2_with fail
      refine (unhide qb _ (unhide HB3)).mono ?_
      rintro e w6 ⟨⟨o6, rfl, h6⟩, hb6⟩
      replace HR := hide ((unhide HR).keep hb6)
      replace RA := hide ((unhide RA).keep hb6)
      replace RB := hide ((unhide RB).keep hb6)
      replace HB3 := hide (bTr (unhide HB3) hb6)
      have H6 := hide h6
      clear hb6 h6 x0 a0 b0 a1 b1 a2 b2 a3 b3 a4 b4 a5 b5 a6 b6 a7 b7 zx za zb2
      have x0 := (unhide HR).at (o := 0) (v := .int .i64 13) (by rw [← unhide HK]; rfl)
      have a0 := (unhide RA).at (o := 0) (v := .int .i64 Y0.f0) rfl
      have a1 := (unhide RA).at (o := 1) (v := .string Y0.f1) rfl
      have a2 := (unhide RA).at (o := 2) (v := .int .i64 Y0.f2) rfl
      have a3 := (unhide RA).at (o := 3) (v := .int .i64 Y0.f3) rfl
      have a4 := (unhide RA).at (o := 4) (v := .string Y0.f4) rfl
      have a5 := (unhide RA).at (o := 5) (v := .string Y0.f5) rfl
      have a6 := (unhide RA).at (o := 6) (v := .int .i64 Y0.f6) rfl
      have a7 := (unhide RA).at (o := 7) (v := .slice sa sn sc) rfl
      have b0 := (unhide RB).at (o := 0) (v := .int .i64 Y1.f0) rfl
      have b1 := (unhide RB).at (o := 1) (v := .string Y1.f1) rfl
      have b2 := (unhide RB).at (o := 2) (v := .int .i64 Y1.f2) rfl
      have b3 := (unhide RB).at (o := 3) (v := .int .i64 Y1.f3) rfl
      have b4 := (unhide RB).at (o := 4) (v := .string Y1.f4) rfl
      have b5 := (unhide RB).at (o := 5) (v := .string Y1.f5) rfl
      have b6 := (unhide RB).at (o := 6) (v := .int .i64 Y1.f6) rfl
      have b7 := (unhide RB).at (o := 7) (v := .slice ta tn tc) rfl
      have zx := (unhide HR).lt
      have za := (unhide RA).lt
      have zb2 := (unhide RB).lt
      cases o6 with
      | false =>
        have no : Hid (¬ P) := hide (fun h => by have := (unhide H6).2 ((unhide hQ).1 h).1; cases this)
        clear hQ H6
        go_wp2_with fail
        go_ret
        exact ⟨retB (b := false) ⟨fun h => (by cases h), fun h => absurd h (unhide no)⟩, unhide HB3⟩
      | true =>
        have hQ2 : Hid (P ↔ Y0.f0 = 1) := hide ((unhide hQ).trans ⟨fun h => h.2, fun h => ⟨(unhide H6).1 rfl, h⟩⟩)
        clear hQ H6
        by_cases hy : Y0.f0 = 1
        · have yes : Hid P := hide ((unhide hQ2).2 hy)
          rw [hy] at a0
          clear hQ2 hy
          go_wp2_with fail
          go_ret
          exact ⟨retB (b := true) ⟨fun _ => unhide yes, fun _ => rfl⟩, unhide HB3⟩
        · have no : Hid (¬ P) := hide (fun h => hy ((unhide hQ2).1 h))
          have dy : (Y0.f0 == 1) = false := by simpa using hy
          clear hQ2
          go_wp2_with fail
          go_ret
          exact ⟨retB (b := false) ⟨fun h => (by cases h), fun h => absurd h (unhide no)⟩, unhide HB3⟩
set_option maxRecDepth 20000 in
set_option maxHeartbeats 2000000 in
theorem right_pair17 (P : Prop) (r : Nat) (w : World) (lo : Nat) (x : ExprT) (ks : List ET) (a : Option Addr) (cap : Nat)  (h : TrAt (r + 1) w lo (.slice a ks.length cap) (.node x ks)) (hf : Fit (.node x ks)) (hk : x.f0 = 17) (hP : Hid (P ↔ PairN x.f0 (ks.getD 0 zT) (ks.getD 1 zT))) :
    Calls Tryz.prog 14 #[agg8 x (.slice a ks.length cap)] w fun e w' => RetB e P ∧ Below w.heap.size w w' := by
  have hl : ks.length = 2 := by have := hf.len (by omega); rw [hk] at this; simp [ari] at this; omega
  obtain ⟨b, cap', sa, sn, sc, es, hlo, hb, gc, htc⟩ := h.kid 0 (by omega)
  cases es
  obtain ⟨b', cap', ta, tn, tc, es, _, _, gd, htd⟩ := h.kid 1 (by omega)
  cases es
  have f0 : Fit ks[0] := hf.out.2.2.1 _ (List.getElem_mem _)
  have f1 : Fit ks[1] := hf.out.2.2.1 _ (List.getElem_mem _)
  have qa := hide (fun (w' : World) (hb : Below w.heap.size w w') => l14Path_t htc f0 w' hb)
  have qb := hide (fun (w' : World) (hb : Below w.heap.size w w') => l14Path_t htd f1 w' hb)
  have hP2 : Hid (P ↔ PairN x.f0 ks[0] ks[1]) := hide (by
    rw [unhide hP, List.getD_eq_getElem?_getD, List.getD_eq_getElem?_getD, List.getElem?_eq_getElem (by omega), List.getElem?_eq_getElem (by omega)]; rfl)
  clear hP
  have lt0 : Hid (LitT ks[0] ↔ ks[0].n.f0 = 1) := hide Iff.rfl
  have lt1 : Hid (LitT ks[1] ↔ ks[1].n.f0 = 1) := hide Iff.rfl
  have vt0 : Hid (VarT [bPri, bRes, bAct] ks[0] ↔ (ks[0].n.f0 = 3 ∧ ks[0].n.f1 ∈ [bPri, bRes, bAct])) := hide Iff.rfl
  obtain ⟨PA, ePA⟩ : ∃ PA, PathT ks[0] = PA := ⟨_, rfl⟩
  rw [ePA] at qa
  have hPA : Hid (PA ↔ PathT ks[0]) := hide (by rw [ePA])
  clear ePA
  obtain ⟨W, hW⟩ : ∃ W, W = w.alloc (.cells (row8 x (.slice (some ⟨b, 0, none⟩) ks.length cap)) 47) := ⟨_, rfl⟩
  have BW : Below w.heap.size w W := by rw [hW]; exact bAl (Below.refl _ _) _
  have RW : RowIs W w.heap.size (row8 x (.slice (some ⟨b, 0, none⟩) ks.length cap)) 47 := by rw [hW]; exact RowIs.new _ _ _
  generalize ks[0] = K0 at *
  generalize ks[1] = K1 at *
  generalize K0.n = Y0 at *
  generalize K1.n = Y1 at *
  simp only [Nat.zero_mul, Nat.one_mul] at gc gd
  have c0 := cellB BW hb gc.c0
  have c1 := cellB BW hb gc.c1
  have c2 := cellB BW hb gc.c2
  have c3 := cellB BW hb gc.c3
  have c4 := cellB BW hb gc.c4
  have c5 := cellB BW hb gc.c5
  have c6 := cellB BW hb gc.c6
  have c7 := cellB BW hb gc.c7
  have d0 := cellB BW hb gd.c0
  have d1 := cellB BW hb gd.c1
  have d2 := cellB BW hb gd.c2
  have d3 := cellB BW hb gd.c3
  have d4 := cellB BW hb gd.c4
  have d5 := cellB BW hb gd.c5
  have d6 := cellB BW hb gd.c6
  have d7 := cellB BW hb gd.c7
  have x0 := RW.at (o := 0) (v := .int .i64 x.f0) rfl
  have x7 := RW.at (o := 7) (v := .slice (some ⟨b, 0, none⟩) ks.length cap) rfl
  have zb : b < W.heap.size := Nat.lt_of_lt_of_le hb BW.size
  rw [hl] at *
  have HBW := hide BW
  have HW := hide hW.symm
  have HR := hide RW
  have q := hide (fun (w1 : World) (a : Option Addr) (hs : SlS w1 a 3 [bPri, bRes, bAct]) => l14V_any Y0 sa sn sc a 3 3 [bPri, bRes, bAct] w1 (by decide) hs)
  clear gc gd htc htd h hf hW BW RW hlo f0 f1 hl
  have hxk := hk.symm
  rw [hk] at hP2 x0
  clear hk
  have HXK := hide hxk
  clear hxk
  go_enter Tryz.func14, Tryz.ntmps14
  go_upto_region 1 with fail
  rw [unhide HW]
  generalize agg8 x (.slice (some ⟨b, 0, none⟩) 2 cap) = V0
  · have HK : Hid (x.f0 = 17) := hide (unhide HXK).symm
    clear HXK
    go_upto_region 27 with fail
    obtain ⟨W2, hW2⟩ : ∃ X, X = W.alloc (.cells (row8 Y0 (.slice sa sn sc)) 47) := ⟨_, rfl⟩
    have b2 : Below W.heap.size W W2 := by rw [hW2]; exact bAl (Below.refl _ _) _
    have RA := hide (show RowIs W2 W.heap.size (row8 Y0 (.slice sa sn sc)) 47 by rw [hW2]; exact RowIs.new _ _ _)
    have s2 : W2.heap.size = W.heap.size + 1 := by rw [hW2]; simp
    rw [← hW2]
    replace HR := hide ((unhide HR).keep b2)
    have HB2 := hide (bTr (unhide HBW) b2)
    have x7 := (unhide HR).at (o := 7) (v := .slice (some ⟨b, 0, none⟩) 2 cap) rfl
    replace d0 := cellB b2 zb d0
    replace d1 := cellB b2 zb d1
    replace d2 := cellB b2 zb d2
    replace d3 := cellB b2 zb d3
    replace d4 := cellB b2 zb d4
    replace d5 := cellB b2 zb d5
    replace d6 := cellB b2 zb d6
    replace d7 := cellB b2 zb d7
    have zb' : b < W2.heap.size := Nat.lt_of_lt_of_le zb b2.size
    clear hW2 b2 x0 c0 c1 c2 c3 c4 c5 c6 c7 zb
    go_upto_region 28 with fail
    obtain ⟨W3, hW3⟩ : ∃ X, X = W2.alloc (.cells (row8 Y1 (.slice ta tn tc)) 47) := ⟨_, rfl⟩
    have b3 : Below W2.heap.size W2 W3 := by rw [hW3]; exact bAl (Below.refl _ _) _
    have RB := hide (show RowIs W3 (W.heap.size + 1) (row8 Y1 (.slice ta tn tc)) 47 by rw [hW3, ← s2]; exact RowIs.new _ _ _)
    rw [← hW3]
    replace HR := hide ((unhide HR).keep b3)
    replace RA := hide ((unhide RA).keep b3)
    have HB3 := hide (bTr (unhide HB2) b3)
    clear hW3 b3 d0 d1 d2 d3 d4 d5 d6 d7 x7 zb' HB2
    clear s2
    have x0 := (unhide HR).at (o := 0) (v := .int .i64 17) (by rw [← unhide HK]; rfl)
    have a0 := (unhide RA).at (o := 0) (v := .int .i64 Y0.f0) rfl
    have a1 := (unhide RA).at (o := 1) (v := .string Y0.f1) rfl
    have a2 := (unhide RA).at (o := 2) (v := .int .i64 Y0.f2) rfl
    have a3 := (unhide RA).at (o := 3) (v := .int .i64 Y0.f3) rfl
    have a4 := (unhide RA).at (o := 4) (v := .string Y0.f4) rfl
    have a5 := (unhide RA).at (o := 5) (v := .string Y0.f5) rfl
    have a6 := (unhide RA).at (o := 6) (v := .int .i64 Y0.f6) rfl
    have a7 := (unhide RA).at (o := 7) (v := .slice sa sn sc) rfl
    have b0 := (unhide RB).at (o := 0) (v := .int .i64 Y1.f0) rfl
    have b1 := (unhide RB).at (o := 1) (v := .string Y1.f1) rfl
    have b2 := (unhide RB).at (o := 2) (v := .int .i64 Y1.f2) rfl
    have b3 := (unhide RB).at (o := 3) (v := .int .i64 Y1.f3) rfl
    have b4 := (unhide RB).at (o := 4) (v := .string Y1.f4) rfl
    have b5 := (unhide RB).at (o := 5) (v := .string Y1.f5) rfl
    have b6 := (unhide RB).at (o := 6) (v := .int .i64 Y1.f6) rfl
    have b7 := (unhide RB).at (o := 7) (v := .slice ta tn tc) rfl
    have zx := (unhide HR).lt
    have za := (unhide RA).lt
    have zb2 := (unhide RB).lt
    by_cases hy1 : Y1.f0 = 1
    · rw [hy1] at b0
      have HY1 := hide hy1
      clear hy1
      go_wp2_with fail
      refine (unhide q _ _ (row3 (RowIs.new _ _ _) rfl)).mono ?_
      rintro e w4 ⟨⟨o4, rfl, h4⟩, hb4⟩
      have hb4' := (bAl (Below.refl W3.heap.size W3) _).trans (hb4.mono (by simp))
      replace HR := hide ((unhide HR).keep hb4')
      replace RA := hide ((unhide RA).keep hb4')
      replace RB := hide ((unhide RB).keep hb4')
      replace HB3 := hide (bTr (unhide HB3) hb4')
      have H4 := hide (h4.trans (unhide vt0).symm)
      have L1 : Hid (LitT K1) := hide ((unhide lt1).2 (unhide HY1))
      clear hb4 hb4' h4 x0 a0 b0 a1 b1 a2 b2 a3 b3 a4 b4 a5 b5 a6 b6 a7 b7 zx za zb2
      have x0 := (unhide HR).at (o := 0) (v := .int .i64 17) (by rw [← unhide HK]; rfl)
      have a0 := (unhide RA).at (o := 0) (v := .int .i64 Y0.f0) rfl
      have a1 := (unhide RA).at (o := 1) (v := .string Y0.f1) rfl
      have a2 := (unhide RA).at (o := 2) (v := .int .i64 Y0.f2) rfl
      have a3 := (unhide RA).at (o := 3) (v := .int .i64 Y0.f3) rfl
      have a4 := (unhide RA).at (o := 4) (v := .string Y0.f4) rfl
      have a5 := (unhide RA).at (o := 5) (v := .string Y0.f5) rfl
      have a6 := (unhide RA).at (o := 6) (v := .int .i64 Y0.f6) rfl
      have a7 := (unhide RA).at (o := 7) (v := .slice sa sn sc) rfl
      have b0 := (unhide RB).at (o := 0) (v := .int .i64 Y1.f0) rfl
      have b1 := (unhide RB).at (o := 1) (v := .string Y1.f1) rfl
      have b2 := (unhide RB).at (o := 2) (v := .int .i64 Y1.f2) rfl
      have b3 := (unhide RB).at (o := 3) (v := .int .i64 Y1.f3) rfl
      have b4 := (unhide RB).at (o := 4) (v := .string Y1.f4) rfl
      have b5 := (unhide RB).at (o := 5) (v := .string Y1.f5) rfl
      have b6 := (unhide RB).at (o := 6) (v := .int .i64 Y1.f6) rfl
      have b7 := (unhide RB).at (o := 7) (v := .slice ta tn tc) rfl
      have zx := (unhide HR).lt
      have za := (unhide RA).lt
      have zb2 := (unhide RB).lt
      have hQ : Hid (P ↔ VarT [bPri, bRes, bAct] K0) := hide ((unhide hP2).trans (by unfold PairN; simp [unhide L1]))
      go_wp2_with fail
      go_ret
      exact ⟨retB ((unhide H4).trans (unhide hQ).symm), unhide HB3⟩
    · have dy1 : (Y1.f0 == 1) = false := by simpa using hy1
      have L1 : Hid (¬ LitT K1) := hide (fun h => hy1 ((unhide lt1).1 h))
      have no : Hid (¬ P) := hide (fun h => by have := (unhide hP2).1 h; unfold PairN at this; simp at this; exact unhide L1 this.1)
      go_wp2_with fail
      go_ret
      exact ⟨retB (b := false) ⟨fun h => (by cases h), fun h => absurd h (unhide no)⟩, unhide HB3⟩
set_option maxRecDepth 20000 in
set_option maxHeartbeats 2000000 in
theorem right_pair18 (P : Prop) (r : Nat) (w : World) (lo : Nat) (x : ExprT) (ks : List ET) (a : Option Addr) (cap : Nat)  (h : TrAt (r + 1) w lo (.slice a ks.length cap) (.node x ks)) (hf : Fit (.node x ks)) (hk : x.f0 = 18) (hP : Hid (P ↔ PairN x.f0 (ks.getD 0 zT) (ks.getD 1 zT))) :
    Calls Tryz.prog 14 #[agg8 x (.slice a ks.length cap)] w fun e w' => RetB e P ∧ Below w.heap.size w w' := by
  have hl : ks.length = 2 := by have := hf.len (by omega); rw [hk] at this; simp [ari] at this; omega
  obtain ⟨b, cap', sa, sn, sc, es, hlo, hb, gc, htc⟩ := h.kid 0 (by omega)
  cases es
  obtain ⟨b', cap', ta, tn, tc, es, _, _, gd, htd⟩ := h.kid 1 (by omega)
  cases es
  have f0 : Fit ks[0] := hf.out.2.2.1 _ (List.getElem_mem _)
  have f1 : Fit ks[1] := hf.out.2.2.1 _ (List.getElem_mem _)
  have qa := hide (fun (w' : World) (hb : Below w.heap.size w w') => l14Path_t htc f0 w' hb)
  have qb := hide (fun (w' : World) (hb : Below w.heap.size w w') => l14Path_t htd f1 w' hb)
  have hP2 : Hid (P ↔ PairN x.f0 ks[0] ks[1]) := hide (by
    rw [unhide hP, List.getD_eq_getElem?_getD, List.getD_eq_getElem?_getD, List.getElem?_eq_getElem (by omega), List.getElem?_eq_getElem (by omega)]; rfl)
  clear hP
  have lt0 : Hid (LitT ks[0] ↔ ks[0].n.f0 = 1) := hide Iff.rfl
  have lt1 : Hid (LitT ks[1] ↔ ks[1].n.f0 = 1) := hide Iff.rfl
  have vt0 : Hid (VarT [bPri, bRes, bAct] ks[0] ↔ (ks[0].n.f0 = 3 ∧ ks[0].n.f1 ∈ [bPri, bRes, bAct])) := hide Iff.rfl
  obtain ⟨PA, ePA⟩ : ∃ PA, PathT ks[0] = PA := ⟨_, rfl⟩
  rw [ePA] at qa
  have hPA : Hid (PA ↔ PathT ks[0]) := hide (by rw [ePA])
  clear ePA
  obtain ⟨W, hW⟩ : ∃ W, W = w.alloc (.cells (row8 x (.slice (some ⟨b, 0, none⟩) ks.length cap)) 47) := ⟨_, rfl⟩
  have BW : Below w.heap.size w W := by rw [hW]; exact bAl (Below.refl _ _) _
  have RW : RowIs W w.heap.size (row8 x (.slice (some ⟨b, 0, none⟩) ks.length cap)) 47 := by rw [hW]; exact RowIs.new _ _ _
  generalize ks[0] = K0 at *
  generalize ks[1] = K1 at *
  generalize K0.n = Y0 at *
  generalize K1.n = Y1 at *
  simp only [Nat.zero_mul, Nat.one_mul] at gc gd
  have c0 := cellB BW hb gc.c0
  have c1 := cellB BW hb gc.c1
  have c2 := cellB BW hb gc.c2
  have c3 := cellB BW hb gc.c3
  have c4 := cellB BW hb gc.c4
  have c5 := cellB BW hb gc.c5
  have c6 := cellB BW hb gc.c6
  have c7 := cellB BW hb gc.c7
  have d0 := cellB BW hb gd.c0
  have d1 := cellB BW hb gd.c1
  have d2 := cellB BW hb gd.c2
  have d3 := cellB BW hb gd.c3
  have d4 := cellB BW hb gd.c4
  have d5 := cellB BW hb gd.c5
  have d6 := cellB BW hb gd.c6
  have d7 := cellB BW hb gd.c7
  have x0 := RW.at (o := 0) (v := .int .i64 x.f0) rfl
  have x7 := RW.at (o := 7) (v := .slice (some ⟨b, 0, none⟩) ks.length cap) rfl
  have zb : b < W.heap.size := Nat.lt_of_lt_of_le hb BW.size
  rw [hl] at *
  have HBW := hide BW
  have HW := hide hW.symm
  have HR := hide RW
  have q := hide (fun (w1 : World) (a : Option Addr) (hs : SlS w1 a 3 [bPri, bRes, bAct]) => l14V_any Y0 sa sn sc a 3 3 [bPri, bRes, bAct] w1 (by decide) hs)
  clear gc gd htc htd h hf hW BW RW hlo f0 f1 hl
  have hxk := hk.symm
  rw [hk] at hP2 x0
  clear hk
  have HXK := hide hxk
  clear hxk
  go_enter Tryz.func14, Tryz.ntmps14
  go_upto_region 1 with fail
  rw [unhide HW]
  generalize agg8 x (.slice (some ⟨b, 0, none⟩) 2 cap) = V0
  · have HK : Hid (x.f0 = 18) := hide (unhide HXK).symm
    clear HXK
    go_upto_region 27 with fail
    obtain ⟨W2, hW2⟩ : ∃ X, X = W.alloc (.cells (row8 Y0 (.slice sa sn sc)) 47) := ⟨_, rfl⟩
    have b2 : Below W.heap.size W W2 := by rw [hW2]; exact bAl (Below.refl _ _) _
    have RA := hide (show RowIs W2 W.heap.size (row8 Y0 (.slice sa sn sc)) 47 by rw [hW2]; exact RowIs.new _ _ _)
    have s2 : W2.heap.size = W.heap.size + 1 := by rw [hW2]; simp
    rw [← hW2]
    replace HR := hide ((unhide HR).keep b2)
    have HB2 := hide (bTr (unhide HBW) b2)
    have x7 := (unhide HR).at (o := 7) (v := .slice (some ⟨b, 0, none⟩) 2 cap) rfl
    replace d0 := cellB b2 zb d0
    replace d1 := cellB b2 zb d1
    replace d2 := cellB b2 zb d2
    replace d3 := cellB b2 zb d3
    replace d4 := cellB b2 zb d4
    replace d5 := cellB b2 zb d5
    replace d6 := cellB b2 zb d6
    replace d7 := cellB b2 zb d7
    have zb' : b < W2.heap.size := Nat.lt_of_lt_of_le zb b2.size
    clear hW2 b2 x0 c0 c1 c2 c3 c4 c5 c6 c7 zb
    go_upto_region 28 with fail
    obtain ⟨W3, hW3⟩ : ∃ X, X = W2.alloc (.cells (row8 Y1 (.slice ta tn tc)) 47) := ⟨_, rfl⟩
    have b3 : Below W2.heap.size W2 W3 := by rw [hW3]; exact bAl (Below.refl _ _) _
    have RB := hide (show RowIs W3 (W.heap.size + 1) (row8 Y1 (.slice ta tn tc)) 47 by rw [hW3, ← s2]; exact RowIs.new _ _ _)
    rw [← hW3]
    replace HR := hide ((unhide HR).keep b3)
    replace RA := hide ((unhide RA).keep b3)
    have HB3 := hide (bTr (unhide HB2) b3)
    clear hW3 b3 d0 d1 d2 d3 d4 d5 d6 d7 x7 zb' HB2
    clear s2
    have x0 := (unhide HR).at (o := 0) (v := .int .i64 18) (by rw [← unhide HK]; rfl)
    have a0 := (unhide RA).at (o := 0) (v := .int .i64 Y0.f0) rfl
    have a1 := (unhide RA).at (o := 1) (v := .string Y0.f1) rfl
    have a2 := (unhide RA).at (o := 2) (v := .int .i64 Y0.f2) rfl
    have a3 := (unhide RA).at (o := 3) (v := .int .i64 Y0.f3) rfl
    have a4 := (unhide RA).at (o := 4) (v := .string Y0.f4) rfl
    have a5 := (unhide RA).at (o := 5) (v := .string Y0.f5) rfl
    have a6 := (unhide RA).at (o := 6) (v := .int .i64 Y0.f6) rfl
    have a7 := (unhide RA).at (o := 7) (v := .slice sa sn sc) rfl
    have b0 := (unhide RB).at (o := 0) (v := .int .i64 Y1.f0) rfl
    have b1 := (unhide RB).at (o := 1) (v := .string Y1.f1) rfl
    have b2 := (unhide RB).at (o := 2) (v := .int .i64 Y1.f2) rfl
    have b3 := (unhide RB).at (o := 3) (v := .int .i64 Y1.f3) rfl
    have b4 := (unhide RB).at (o := 4) (v := .string Y1.f4) rfl
    have b5 := (unhide RB).at (o := 5) (v := .string Y1.f5) rfl
    have b6 := (unhide RB).at (o := 6) (v := .int .i64 Y1.f6) rfl
    have b7 := (unhide RB).at (o := 7) (v := .slice ta tn tc) rfl
    have zx := (unhide HR).lt
    have za := (unhide RA).lt
    have zb2 := (unhide RB).lt
    by_cases hy1 : Y1.f0 = 1
    · rw [hy1] at b0
      have HY1 := hide hy1
      clear hy1
      go_wp2_with fail
      refine (unhide q _ _ (row3 (RowIs.new _ _ _) rfl)).mono ?_
      rintro e w4 ⟨⟨o4, rfl, h4⟩, hb4⟩
      have hb4' := (bAl (Below.refl W3.heap.size W3) _).trans (hb4.mono (by simp))
      replace HR := hide ((unhide HR).keep hb4')
      replace RA := hide ((unhide RA).keep hb4')
      replace RB := hide ((unhide RB).keep hb4')
      replace HB3 := hide (bTr (unhide HB3) hb4')
      have H4 := hide (h4.trans (unhide vt0).symm)
      have L1 : Hid (LitT K1) := hide ((unhide lt1).2 (unhide HY1))
      clear hb4 hb4' h4 x0 a0 b0 a1 b1 a2 b2 a3 b3 a4 b4 a5 b5 a6 b6 a7 b7 zx za zb2
      have x0 := (unhide HR).at (o := 0) (v := .int .i64 18) (by rw [← unhide HK]; rfl)
      have a0 := (unhide RA).at (o := 0) (v := .int .i64 Y0.f0) rfl
      have a1 := (unhide RA).at (o := 1) (v := .string Y0.f1) rfl
      have a2 := (unhide RA).at (o := 2) (v := .int .i64 Y0.f2) rfl
      have a3 := (unhide RA).at (o := 3) (v := .int .i64 Y0.f3) rfl
      have a4 := (unhide RA).at (o := 4) (v := .string Y0.f4) rfl
      have a5 := (unhide RA).at (o := 5) (v := .string Y0.f5) rfl
      have a6 := (unhide RA).at (o := 6) (v := .int .i64 Y0.f6) rfl
      have a7 := (unhide RA).at (o := 7) (v := .slice sa sn sc) rfl
      have b0 := (unhide RB).at (o := 0) (v := .int .i64 Y1.f0) rfl
      have b1 := (unhide RB).at (o := 1) (v := .string Y1.f1) rfl
      have b2 := (unhide RB).at (o := 2) (v := .int .i64 Y1.f2) rfl
      have b3 := (unhide RB).at (o := 3) (v := .int .i64 Y1.f3) rfl
      have b4 := (unhide RB).at (o := 4) (v := .string Y1.f4) rfl
      have b5 := (unhide RB).at (o := 5) (v := .string Y1.f5) rfl
      have b6 := (unhide RB).at (o := 6) (v := .int .i64 Y1.f6) rfl
      have b7 := (unhide RB).at (o := 7) (v := .slice ta tn tc) rfl
      have zx := (unhide HR).lt
      have za := (unhide RA).lt
      have zb2 := (unhide RB).lt
      have hA : Hid (P ↔ PA) := hide ((unhide hP2).trans (by unfold PairN; simp [unhide L1, ← unhide hPA]))
      go_wp2_with fail
      refine (unhide qa _ (unhide HB3)).mono ?_
      rintro e w5 ⟨⟨o5, rfl, h5⟩, hb5⟩
      replace HR := hide ((unhide HR).keep hb5)
      replace RA := hide ((unhide RA).keep hb5)
      replace RB := hide ((unhide RB).keep hb5)
      replace HB3 := hide (bTr (unhide HB3) hb5)
      have H5 := hide h5
      clear hb5 h5 x0 a0 b0 a1 b1 a2 b2 a3 b3 a4 b4 a5 b5 a6 b6 a7 b7 zx za zb2
      have x0 := (unhide HR).at (o := 0) (v := .int .i64 18) (by rw [← unhide HK]; rfl)
      have a0 := (unhide RA).at (o := 0) (v := .int .i64 Y0.f0) rfl
      have a1 := (unhide RA).at (o := 1) (v := .string Y0.f1) rfl
      have a2 := (unhide RA).at (o := 2) (v := .int .i64 Y0.f2) rfl
      have a3 := (unhide RA).at (o := 3) (v := .int .i64 Y0.f3) rfl
      have a4 := (unhide RA).at (o := 4) (v := .string Y0.f4) rfl
      have a5 := (unhide RA).at (o := 5) (v := .string Y0.f5) rfl
      have a6 := (unhide RA).at (o := 6) (v := .int .i64 Y0.f6) rfl
      have a7 := (unhide RA).at (o := 7) (v := .slice sa sn sc) rfl
      have b0 := (unhide RB).at (o := 0) (v := .int .i64 Y1.f0) rfl
      have b1 := (unhide RB).at (o := 1) (v := .string Y1.f1) rfl
      have b2 := (unhide RB).at (o := 2) (v := .int .i64 Y1.f2) rfl
      have b3 := (unhide RB).at (o := 3) (v := .int .i64 Y1.f3) rfl
      have b4 := (unhide RB).at (o := 4) (v := .string Y1.f4) rfl
      have b5 := (unhide RB).at (o := 5) (v := .string Y1.f5) rfl
      have b6 := (unhide RB).at (o := 6) (v := .int .i64 Y1.f6) rfl
      have b7 := (unhide RB).at (o := 7) (v := .slice ta tn tc) rfl
      have zx := (unhide HR).lt
      have za := (unhide RA).lt
      have zb2 := (unhide RB).lt
      clear x0 a0 b0 a1 b1 a2 b2 a3 b3 a4 b4 a5 b5 a6 b6 a7 b7 zx za zb2
      go_wp2_with fail
      go_ret
      exact ⟨retB ((unhide H5).trans (unhide hA).symm), unhide HB3⟩
    · have dy1 : (Y1.f0 == 1) = false := by simpa using hy1
      have L1 : Hid (¬ LitT K1) := hide (fun h => hy1 ((unhide lt1).1 h))
      have no : Hid (¬ P) := hide (fun h => by have := (unhide hP2).1 h; unfold PairN at this; simp at this; exact unhide L1 this.1)
      go_wp2_with fail
      go_ret
      exact ⟨retB (b := false) ⟨fun h => (by cases h), fun h => absurd h (unhide no)⟩, unhide HB3⟩
end Go.Proofs.YteaidfighimoiaaGreat.V
