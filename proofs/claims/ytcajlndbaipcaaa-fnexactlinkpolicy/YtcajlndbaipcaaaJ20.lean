/- YRj, YSg, one behind the other. -/
import Derived.Test.YtcajlndbaipcaaaJ19
import Derived.Deep.RegionHeld3
/- spec.l10Right. -/
namespace Go.Proofs.Ytcajlndbaipcaaa.V
open Go.RowKit Go.Maps

theorem ari_rng (k : Int) : ari k = -1 ∨ ari k = -2 ∨ 0 ≤ ari k := by
  unfold ari
  repeat' split
  all_goals simp
theorem take_all {P : ET → Prop} {ks : List ET} {k : Nat} (h : k < ks.length) : (∀ q ∈ ks.take (k + 1), P q) ↔ ((∀ q ∈ ks.take k, P q) ∧ P ks[k]) := by
  rw [List.take_succ_eq_append_getElem h]
  constructor
  · intro g; exact ⟨fun q hq => g q (List.mem_append_left _ hq), g _ (List.mem_append_right _ (List.mem_singleton_self _))⟩
  · rintro ⟨g1, g2⟩ q hq
    rw [List.mem_append, List.mem_singleton] at hq
    rcases hq with hq | rfl
    · exact g1 q hq
    · exact g2
theorem bool_of (p : Prop) : ∃ T : Bool, (T = true ↔ p) := ⟨@decide p (Classical.propDecidable _), by simp⟩
def OkX (q : ExprT) : Prop := q.Ok ∧ q.f1.size ≤ 1048576

set_option maxRecDepth 20000 in
set_option maxHeartbeats 4000000 in
theorem l10Right_step (r : Nat) (ih : ∀ (w : World) (lo : Nat) (s : Value) (t : ET), TrAt r w lo s t → AllY OkX t → Calls Try.prog 57 #[agg8 t.n s] w fun e w' => RetB e (Right t) ∧ Below w.heap.size w w')
    (w : World) (lo : Nat) (x : ExprT) (ks : List ET) (a : Option Addr) (cap : Nat) (h6 : x.f6 = (ks.length : Int)) (h10 : ks.length ≤ 10) (hx : OkX x)
    (hk : ks = [] ∨ ∃ b, a = some ⟨b, 0, none⟩ ∧ lo ≤ b ∧ b < w.heap.size ∧ ∀ i (h : i < ks.length), ∃ s', At8 w b (i * 8) ks[i].n s' ∧ TrAt r w lo s' ks[i]) (ha : ∀ k ∈ ks, AllY OkX k) :
    Calls Try.prog 57 #[agg8 x (.slice a ks.length cap)] w fun e w' => RetB e (Right (.node x ks)) ∧ Below w.heap.size w w' := by
  have RI := hide (right_iff h6 h10)
  have q1 := hide (l10Arity_any x.f0)
  have hr : Hid (ari x.f0 = -1 ∨ ari x.f0 = -2 ∨ 0 ≤ ari x.f0) := hide (ari_rng _)
  generalize ari x.f0 = A at *
  have IH := hide ih
  have HK := hide hk
  have HA := hide ha
  have HX := hide hx
  clear ih hk ha hx h6
  obtain ⟨W2, hW2⟩ : ∃ W, W = (w.alloc (.cells (row8 x (.slice a ks.length cap)) 76)).alloc (.cells (eRow x) 56) := ⟨_, rfl⟩
  have B2 : Hid (Below w.heap.size w W2) := hide (by rw [hW2]; exact bAl (bAl (Below.refl _ _) _) _)
  have P2 : Hid (RowIs W2 w.heap.size (row8 x (.slice a ks.length cap)) 76) := hide (by rw [hW2]; exact (RowIs.new w _ _).keep (bAl (Below.refl _ _) _))
  have N2 : Hid (RowIs W2 (w.heap.size + 1) (eRow x) 56) := hide (by
    rw [hW2]
    have := RowIs.new (w.alloc (.cells (row8 x (.slice a ks.length cap)) 76)) (eRow x) 56
    simpa using this)
  have HW2 := hide hW2.symm
  obtain ⟨T, hT⟩ := bool_of (¬ (A ≠ -1 ∧ (0 ≤ A → (ks.length : Int) = A) ∧ (x.f0 = 1 ∨ zEx x)))
  have HT := hide hT
  have cx : ∀ (o : Nat) (v : Value), (eRow x)[o]? = some v → W2.cell? ⟨w.heap.size + 1, o, none⟩ = some v := fun o v h => (unhide N2).at h
  have x0 := cx 0 (.int .i64 x.f0) rfl
  have x1 := cx 1 (.string x.f1) rfl
  have x2 := cx 2 (.int .i64 x.f2) rfl
  have x3 := cx 3 (.int .i64 x.f3) rfl
  have x4 := cx 4 (.string x.f4) rfl
  have x5 := cx 5 (.string x.f5) rfl
  have x6 := cx 6 (.int .i64 x.f6) rfl
  have p7 := (unhide P2).at (o := 7) (v := .slice a ks.length cap) rfl
  clear hW2 hT cx
  go_enter Try.func57, Try.ntmps57
  go_wp2_with fail
  refine (unhide q1 _).mono ?_
  rintro e w1 ⟨rfl, rfl⟩
  rw [unhide HW2]
  generalize agg8 x (.slice a ks.length cap) = V0
  go_upto_region 3 with fail
  go_cut [38] (fun c wx => c = .bool T ∧ W2 = wx)
  case first =>
    clear q1 HW2 IH HK HA HX RI
    have hT := unhide HT
    clear HT
    obtain ⟨f0, f1, f2, f3, f4, f5, f6⟩ := x
    simp only [zEx] at *
    by_cases hA1 : A = -1
    · have et : T = true := hT.2 (fun h => h.1 hA1)
      subst hA1
      clear hT
      go_wp2_with fail
      go_meet
      exact ⟨by rw [et], rfl⟩
    by_cases hA2 : 0 ≤ A ∧ ¬ (ks.length : Int) = A
    · have et : T = true := hT.2 (fun h => hA2.2 (h.2.1 hA2.1))
      obtain ⟨g1, g2⟩ := hA2
      clear hT
      go_wp2_with fail
      go_meet
      exact ⟨by rw [et], rfl⟩
    have dA : (A == -1) = false := by simpa using hA1
    have hC : 0 ≤ A → (ks.length : Int) = A := fun h => Classical.byContradiction fun h' => hA2 ⟨h, h'⟩
    by_cases g0 : f0 = 1
    · have et : T = false := by
        cases T with
        | false => rfl
        | true => exact absurd ⟨hA1, hC, .inl g0⟩ (hT.1 rfl)
      subst g0
      clear hT hA2
      by_cases gA : 0 ≤ A
      · have gl := hC gA
        clear hC
        go_wp2_with fail
        all_goals go_meet
        all_goals exact ⟨by rw [et], rfl⟩
      · clear hC
        go_wp2_with fail
        all_goals go_meet
        all_goals exact ⟨by rw [et], rfl⟩
    · have et : T = true ↔ ¬ (f2 = 0 ∧ f3 = 0 ∧ f4 = empE ∧ f5 = empE) := hT.trans ⟨fun h h' => h ⟨hA1, hC, .inr h'⟩, fun h h' => h (h'.2.2.resolve_left g0)⟩
      simp only [empE_iff] at et
      have ET' := hide et
      have dF : (f0 != 1) = true := by simpa using g0
      clear hT hA2 et
      by_cases gA : 0 ≤ A
      · have gl := hC gA
        clear hC
        go_wp2_with fail
        all_goals go_meet
        all_goals refine ⟨?_, rfl⟩
        all_goals replace ET' := unhide ET'
        all_goals cases T
        all_goals simp_all
      · clear hC
        go_wp2_with fail
        all_goals go_meet
        all_goals refine ⟨?_, rfl⟩
        all_goals replace ET' := unhide ET'
        all_goals cases T
        all_goals simp_all
  case rest =>
    obtain ⟨rfl, rfl⟩ := hcut
    cases T with
    | true =>
      have no : Hid (¬ Right (.node x ks)) := hide (fun h => ((unhide HT).1 rfl) ((unhide RI).1 h).1)
      clear HT RI IH HK HA HX
      go_wp2_with fail
      go_ret
      exact ⟨retB (b := false) ⟨fun h => (by cases h), fun h => absurd h (unhide no)⟩, unhide B2⟩
    | false =>
      have C1 : Hid (A ≠ -1 ∧ (0 ≤ A → (ks.length : Int) = A) ∧ (x.f0 = 1 ∨ zEx x)) := hide (Classical.byContradiction fun h => by have := (unhide HT).2 h; cases this)
      clear HT
      go_upto_block 0 with fail
      go_cut [5, 6, 7] (fun c s6 s7 wx => ∃ ok : Bool, c = .bool ok ∧ Hid (ok = true ↔ txtP x) ∧ Hid (Below W2.heap.size W2 wx))
      case first =>
        have N2' := N2
        clear IH HK HA RI C1 hr q1 P2 p7 B2
        obtain ⟨f0, f1, f2, f3, f4, f5, f6⟩ := x
        simp only at *
        by_cases g1 : f0 = 1
        · have et : Hid (txtP ⟨f0, f1, f2, f3, f4, f5, f6⟩ ↔ (f1.toList.isEmpty = true ∧ goodAtom f2 f3 f4 f5 = true)) := hide (by unfold txtP; rw [if_pos g1]; simp [empE_iff])
          have q := hide (fun w => sGoodAtom_any f2 f3 f4 f5 w (unhide HX).1.n9 (unhide HX).1.o4 (unhide HX).1.o5)
          subst g1
          generalize goodAtom f2 f3 f4 f5 = G at *
          clear HX
          cases he : f1.toList.isEmpty
          · rw [he] at et
            go_wp2_with fail
            go_meet
            exact ⟨false, rfl, hide (by rw [unhide et]; simp), hide (Below.refl _ _)⟩
          · rw [he] at et
            go_wp2_with fail
            refine (unhide q _).mono ?_
            rintro e w3 ⟨rfl, hb3⟩
            have HB := hide hb3
            clear hb3
            go_wp2_with fail
            go_meet
            exact ⟨_, rfl, hide (by rw [unhide et]; simp), HB⟩
        by_cases g3 : f0 = 3
        · have et : Hid (txtP ⟨f0, f1, f2, f3, f4, f5, f6⟩ ↔ varP f1) := hide (by unfold txtP; rw [if_neg g1, if_pos g3])
          subst g3
          have VM := hide (var_mem f1)
          generalize varP f1 = V at *
          have zN := (unhide N2).lt
          clear HX g1
          go_wp2_with fail
          go_region_with (first
            | (go_at_call 63; refine (l10Vars_any _).mono ?_; rintro e w3 ⟨⟨a3, c3, rfl, hs3⟩, hb3⟩; have y1 : w3.cell? ⟨w.heap.size + 1, 1, none⟩ = some (.string f1) := cellG (undrew hb3) zN x1; have HS3 := hide hs3; have HB3 := hide (undrew hb3); clear hs3 hb3)
            | (go_at_call 62; refine (l3Has_anyY _ 4 _ _ f1 _ (by decide) (unhide HS3)).mono ?_; rintro e w4 ⟨⟨b4, rfl, h4⟩, rfl⟩; have H4 := hide h4; clear h4))
          all_goals go_wp2_with fail
          all_goals go_meet
          all_goals exact ⟨_, rfl, hide (by rw [unhide et, unhide H4, unhide VM]), HB3⟩
        by_cases g4 : f0 = 4 ∨ f0 = 5 ∨ f0 = 21
        · have et : Hid (txtP ⟨f0, f1, f2, f3, f4, f5, f6⟩ ↔ goodName f1 = true) := hide (by unfold txtP; rw [if_neg g1, if_neg g3, if_pos g4])
          have q := hide (sGoodName_any f1 (unhide HX).1.o1)
          generalize goodName f1 = G at *
          clear HX g1 g3
          rcases g4 with rfl | rfl | rfl
          all_goals go_wp2_with fail
          all_goals refine (unhide q _).mono ?_
          all_goals rintro e w3 ⟨rfl, rfl⟩
          all_goals go_wp2_with fail
          all_goals go_meet
          all_goals exact ⟨_, rfl, hide (by rw [unhide et]), hide (Below.refl _ _)⟩
        by_cases g20 : f0 = 20
        · have et : Hid (txtP ⟨f0, f1, f2, f3, f4, f5, f6⟩ ↔ (f1.size ≤ 200 ∧ textL f1 = true ∧ (toks f1.data.toList).isSome = true)) := hide (by unfold txtP; rw [if_neg g1, if_neg g3, if_neg g4, if_pos g20])
          subst g20
          have zN := (unhide N2).lt
          have q := hide (fun w => l1Tokens_any f1 (unhide HX).2 w)
          have qp := hide (fun w => l1Printed_any f1 (unhide HX).1.o1 w)
          have sz := (unhide HX).2
          clear g1 g3 g4 HX
          go_wp2_with fail
          refine (unhide q _).mono ?_
          rintro e w3 ⟨ht, hb3⟩
          have y1 : w3.cell? ⟨w.heap.size + 1, 1, none⟩ = some (.string f1) := cellG hb3 zN x1
          have HB3 := hide hb3
          clear hb3 q
          rcases ht with ⟨h1, rfl⟩ | ⟨ts, v, h1, rfl, _⟩
          · have no : Hid (¬ txtP ⟨20, f1, f2, f3, f4, f5, f6⟩) := hide (fun h => by have := ((unhide et).1 h).2.2; rw [h1] at this; simp at this)
            clear et h1
            go_wp2_with fail
            go_meet
            exact ⟨false, rfl, hide ⟨fun h => (by cases h), fun h => absurd h (unhide no)⟩, HB3⟩
          · have et' : Hid (txtP ⟨20, f1, f2, f3, f4, f5, f6⟩ ↔ (f1.size ≤ 200 ∧ textL f1 = true)) := hide (by rw [unhide et, h1]; simp)
            clear et h1
            generalize textL f1 = X at *
            obtain ⟨av, cv, ev⟩ := own_sl ‹_›
            subst ev
            by_cases h2 : f1.size ≤ 200
            · go_wp2_with fail
              refine (unhide qp _).mono ?_
              rintro e w4 ⟨rfl, rfl⟩
              go_wp2_with fail
              go_meet
              exact ⟨_, rfl, hide (by rw [unhide et']; simp [h2]), HB3⟩
            · go_wp2_with fail
              go_meet
              exact ⟨false, rfl, hide (by rw [unhide et']; simp [h2]), HB3⟩
        · have et : Hid (txtP ⟨f0, f1, f2, f3, f4, f5, f6⟩ ↔ f1.toList.isEmpty = true) := hide (by unfold txtP; rw [if_neg g1, if_neg g3, if_neg g4, if_neg g20]; simp [empE_iff])
          simp only [not_or] at g4
          obtain ⟨g4, g5, g21⟩ := g4
          clear HX
          go_wp2_with fail
          go_meet
          exact ⟨_, rfl, hide (by rw [unhide et]), hide (Below.refl _ _)⟩
      case rest =>
        obtain ⟨ok, rfl, hok, hbx⟩ := hcut
        have P3 := hide ((unhide P2).keep (unhide hbx))
        have N3 := hide ((unhide N2).keep (unhide hbx))
        have p7 := (unhide P3).at (o := 7) (v := .slice a ks.length cap) rfl
        have RI' : Hid (Right (.node x ks) ↔ (txtP x ∧ ∀ k ∈ ks, Right k ∧ (x.f0 ≠ 2 ∨ k.n.f0 = 1))) := hide ⟨fun h => ((unhide RI).1 h).2, fun h => (unhide RI).2 ⟨unhide C1, h⟩⟩
        have bw : Hid (Below w.heap.size w wc) := hide (bTr (unhide B2) (unhide hbx))
        clear RI C1 hr HX x0 x1 x2 x3 x4 x5 x6 q1
        go_wp2_with fail
        go_loopw [5, 88] (fun o i w' => ∃ (k : Nat) (ok' : Bool), k ≤ ks.length ∧ i = .int .i64 k ∧ o = .bool ok' ∧ Hid (ok' = true ↔ (txtP x ∧ ∀ q ∈ ks.take k, Right q ∧ (x.f0 ≠ 2 ∨ q.n.f0 = 1))) ∧ Hid (Below wc.heap.size wc w')) (fun _ i _ => ks.length - (Go.RowKit.intOf i).toNat)
        case atStart => exact ⟨0, ok, Nat.zero_le _, rfl, rfl, hide (by rw [unhide hok]; simp), hide (Below.refl _ _)⟩
        case round =>
          obtain ⟨k, ok', hk, rfl, rfl, hok', hb'⟩ := hrel
          by_cases hlt : k < ks.length
          · rcases unhide HK with e | ⟨b, rfl, hlo, hbz, hcells⟩
            · rw [e] at hlt; simp at hlt
            obtain ⟨s', h8, htr⟩ := hcells k hlt
            have bwr := bTr (unhide bw) (unhide hb')
            have c0 := cellG bwr hbz h8.c0
            have c1 := cellG bwr hbz h8.c1
            have c2 := cellG bwr hbz h8.c2
            have c3 := cellG bwr hbz h8.c3
            have c4 := cellG bwr hbz h8.c4
            have c5 := cellG bwr hbz h8.c5
            have c6 := cellG bwr hbz h8.c6
            have c7 := cellG bwr hbz h8.c7
            have es2 : Hid (∃ a cap n, s' = .slice a n cap) := hide (by
              cases r with
              | zero => exact htr.elim
              | succ r => obtain ⟨_, _, a, cap, e, _⟩ := htr; exact ⟨_, _, _, e⟩)
            obtain ⟨sa, sc, sn, rfl⟩ := unhide es2
            have hst := hide (fun P => take_all (P := P) hlt)
            have hal := hide (unhide HA _ (List.getElem_mem hlt))
            have HTR := hide htr
            generalize ks[k] = K at *
            obtain ⟨Y, hY⟩ : ∃ Y, K.n = Y := ⟨_, rfl⟩
            rw [hY] at c0 c1 c2 c3 c4 c5 c6
            have HY := hide hY
            obtain ⟨W3, hW3⟩ : ∃ W, W = wr.alloc (.cells (row8 Y (.slice sa sn sc)) 76) := ⟨_, rfl⟩
            have b3 : Below wr.heap.size wr W3 := by rw [hW3]; exact bAl (Below.refl _ _) _
            have K3 := hide (show RowIs W3 wr.heap.size (row8 Y (.slice sa sn sc)) 76 by rw [hW3]; exact RowIs.new _ _ _)
            have NN3 := hide (((unhide N3).keep (unhide hb')).keep b3)
            have HB3 := hide (bTr (unhide hb') b3)
            have q := hide (unhide IH W3 lo (.slice sa sn sc) K (htr.keptY ((KeptY.refl lo w).below (bTr bwr b3) (Nat.le_refl _))) (unhide hal))
            rw [hY] at q
            have HW3 := hide hW3.symm
            clear h8 htr hcells bwr hbz hlo hY hW3 b3 es2 hal IH HK
            go_upto_region 21 with fail
            rw [unhide HW3]
            have hnx : Hid ((txtP x ∧ ∀ q ∈ ks.take (k + 1), Right q ∧ (x.f0 ≠ 2 ∨ q.n.f0 = 1)) ↔ ((txtP x ∧ ∀ q ∈ ks.take k, Right q ∧ (x.f0 ≠ 2 ∨ q.n.f0 = 1)) ∧ Right K ∧ (x.f0 ≠ 2 ∨ Y.f0 = 1))) := hide (by
              rw [unhide hst (fun q => Right q ∧ (x.f0 ≠ 2 ∨ q.n.f0 = 1)), unhide HY, and_assoc])
            clear c0 c1 c2 c3 c4 c5 c6 c7 HW3 hst
            have k0 := (unhide K3).at (o := 0) (v := .int .i64 Y.f0) rfl
            have k1 := (unhide K3).at (o := 1) (v := .string Y.f1) rfl
            have k2 := (unhide K3).at (o := 2) (v := .int .i64 Y.f2) rfl
            have k3 := (unhide K3).at (o := 3) (v := .int .i64 Y.f3) rfl
            have k4 := (unhide K3).at (o := 4) (v := .string Y.f4) rfl
            have k5 := (unhide K3).at (o := 5) (v := .string Y.f5) rfl
            have k6 := (unhide K3).at (o := 6) (v := .int .i64 Y.f6) rfl
            have k7 := (unhide K3).at (o := 7) (v := .slice sa sn sc) rfl
            cases ok' with
            | false =>
              have no : Hid (false = true ↔ (txtP x ∧ ∀ q ∈ ks.take (k + 1), Right q ∧ (x.f0 ≠ 2 ∨ q.n.f0 = 1))) := hide (by
                rw [unhide hnx]
                exact ⟨fun h => (by cases h), fun h => (unhide hok').2 h.1⟩)
              clear hok' hnx q
              go_wp2_with fail
              exact ⟨⟨k + 1, false, by omega, by go_num, rfl, no, HB3⟩, by simp [Go.RowKit.intOf]; omega⟩
            | true =>
              have hyes := hide ((unhide hok').1 rfl)
              clear hok'
              go_wp2_with fail
              refine (unhide q).mono ?_
              rintro e w4 ⟨⟨b4, rfl, h4⟩, hb4⟩
              have n0 := ((unhide NN3).keep hb4).at (o := 0) (v := .int .i64 x.f0) rfl
              have g0 := ((unhide K3).keep hb4).at (o := 0) (v := .int .i64 Y.f0) rfl
              have HB4 := hide (bTr (unhide HB3) hb4)
              have fin : Hid ((txtP x ∧ ∀ q ∈ ks.take (k + 1), Right q ∧ (x.f0 ≠ 2 ∨ q.n.f0 = 1)) ↔ (b4 = true ∧ (x.f0 ≠ 2 ∨ Y.f0 = 1))) := hide (by
                rw [unhide hnx, h4]
                exact ⟨fun h => h.2, fun h => ⟨unhide hyes, h⟩⟩)
              clear q k0 k1 k2 k3 k4 k5 k6 k7 h4 hb4 hnx hyes
              cases b4 with
              | false =>
                go_wp2_with fail
                exact ⟨⟨k + 1, false, by omega, by go_num, rfl, hide (by rw [unhide fin]; simp), HB4⟩, by simp [Go.RowKit.intOf]; omega⟩
              | true =>
                by_cases h2 : x.f0 = 2
                · rw [h2] at n0
                  have H2 := hide h2
                  clear h2
                  by_cases h1 : Y.f0 = 1
                  · rw [h1] at g0
                    have H1 := hide h1
                    clear h1
                    go_wp2_with fail
                    exact ⟨⟨k + 1, _, by omega, by go_num, rfl, hide (by rw [unhide fin]; simp [unhide H1]), HB4⟩, by simp [Go.RowKit.intOf]; omega⟩
                  · have d1 : (Y.f0 == 1) = false := by simpa using h1
                    go_wp2_with fail
                    exact ⟨⟨k + 1, _, by omega, by go_num, rfl, hide (by rw [unhide fin]; simp [h1, unhide H2]), HB4⟩, by simp [Go.RowKit.intOf]; omega⟩
                · have d2 : (x.f0 != 2) = true := by simpa using h2
                  go_wp2_with fail
                  exact ⟨⟨k + 1, _, by omega, by go_num, rfl, hide (by rw [unhide fin]; simp [h2]), HB4⟩, by simp [Go.RowKit.intOf]; omega⟩
          · have hd : Hid (ok' = true ↔ Right (.node x ks)) := hide (by
              have := unhide hok'
              rw [List.take_of_length_le (by omega)] at this
              rw [this, unhide RI'])
            clear hok'
            go_wp2_with fail
            go_ret
            exact ⟨retB (unhide hd), bTr (unhide bw) (unhide hb')⟩

theorem l10Right_any : ∀ (r : Nat) (w : World) (lo : Nat) (s : Value) (t : ET), TrAt r w lo s t → AllY OkX t → Calls Try.prog 57 #[agg8 t.n s] w fun e w' => RetB e (Right t) ∧ Below w.heap.size w w'
  | 0, _, _, _, _, h, _ => h.elim
  | r + 1, w, lo, s, .node x ks, ⟨h1, h2, a, cap, h3, h4⟩, ha => by
    subst h3
    exact l10Right_step r (l10Right_any r) w lo x ks a cap h1 h2 ha.out.1 h4 ha.out.2
end Go.Proofs.Ytcajlndbaipcaaa.V
/- spec.l10Tree, GoodExpr. -/
namespace Go.Proofs.Ytcajlndbaipcaaa.V
open Go.RowKit Go.Maps

def TreeIs (w' : World) (lo : Nat) (l : List ExprT) (e : Ending) : Prop :=
  (¬ GExpr l ∧ ∃ X sa sn sc, e = .returned (.tuple #[agg8 X (.slice sa sn sc), .bool false])) ∨ (GExpr l ∧ ∃ t sa sn sc, e = .returned (.tuple #[agg8 t.n (.slice sa sn sc), .bool true]) ∧ takeT 12 l = some (t, []) ∧ Right t ∧ TrAt 12 w' lo (.slice sa sn sc) t)
theorem GExpr.iff {l : List ExprT} {t : ET} {l' : List ExprT} (h : takeT 12 l = some (t, l')) (h60 : l.length ≤ 60) : GExpr l ↔ (l' = [] ∧ Right t) := by
  constructor
  · rintro ⟨_, t', h'⟩
    obtain ⟨a, b⟩ := (grow_iff 12 _ _ _).1 h'
    rw [h] at a
    simp at a
    obtain ⟨rfl, rfl⟩ := a
    exact ⟨rfl, b⟩
  · rintro ⟨rfl, hr⟩
    exact ⟨h60, t, (grow_iff 12 _ _ _).2 ⟨h, hr⟩⟩
theorem GExpr.no {l : List ExprT} (h : takeT 12 l = none) : ¬ GExpr l := by
  rintro ⟨_, t', h'⟩
  obtain ⟨a, b⟩ := (grow_iff 12 _ _ _).1 h'
  rw [h] at a; cases a

set_option maxRecDepth 20000 in
set_option maxHeartbeats 4000000 in
theorem l10Tree_any (a : Option Addr) (len cap : Nat) (l : List ExprT) (w : World) (hl : len ≤ 1048576) (hs : SlExpr w a len l) (hok : ∀ q ∈ l, OkX q) :
    Calls Try.prog 50 #[.slice a len cap] w fun e w' => TreeIs w' w.heap.size l e ∧ Below w.heap.size w w' := by
  by_cases h1 : len < 1 ∨ 60 < len
  · have no : Hid (¬ GExpr l) := hide (by
      rintro ⟨h60, t, h⟩
      rcases h1 with h1 | h1
      · have : l = [] := List.length_eq_zero_iff.1 (by rw [← hs.1]; omega)
        rw [this] at h; cases h
      · rw [← hs.1] at h60; omega)
    clear hs hok
    rcases h1 with h1 | h1
    · go_enter Try.func50, Try.ntmps50
      go_wp2_with fail
      refine bodyPost_ret (v := .tuple #[agg8 zX (.slice none 0 0), .bool false]) (by simp [results, Try.results50, go_sem]) rfl ⟨.inl ⟨unhide no, _, _, _, _, rfl⟩, bAl (Below.refl _ _) _⟩
    · have h2 : ¬ len < 1 := by omega
      go_enter Try.func50, Try.ntmps50
      go_wp2_with fail
      refine bodyPost_ret (v := .tuple #[agg8 zX (.slice none 0 0), .bool false]) (by simp [results, Try.results50, go_sem]) rfl ⟨.inl ⟨unhide no, _, _, _, _, rfl⟩, bAl (Below.refl _ _) _⟩
  have h2 : ¬ len < 1 := fun h => h1 (.inl h)
  have h3 : ¬ 60 < len := fun h => h1 (.inr h)
  have h60 : l.length ≤ 60 := by rw [← hs.1]; omega
  have q := hide (fun w hs => l10Take_any 12 a len cap l 0 1 w (by omega) (by omega) (by omega) hs (Nat.zero_le _))
  have HS := hide hs
  have HO := hide hok
  have R0 := hide (RowIs.new w (row8 zX (.slice none 0 0)) 76)
  have B0 := hide (bAl (Below.refl w.heap.size w) (.cells (row8 zX (.slice none 0 0)) 76))
  have s0 : (w.alloc (.cells (row8 zX (.slice none 0 0)) 76)).heap.size = w.heap.size + 1 := by simp
  clear hs hok h1
  go_enter Try.func50, Try.ntmps50
  go_wp2_with fail
  refine (unhide q _ ((unhide HS).keep (unhide B0))).mono ?_
  rintro e w1 ⟨hte, hb1⟩
  simp only [TakeEnd, List.drop_zero] at hte
  have R1 := hide ((unhide R0).keep hb1)
  have B1 := hide (bTr (unhide B0) hb1)
  have zl : w.heap.size < w1.heap.size := (unhide R1).lt
  clear R0 B0 q
  rcases hte with ⟨hg, rfl⟩ | ⟨t, at2, s, hg, ha2, rfl, htr⟩
  · have no := hide (GExpr.no hg)
    obtain ⟨W3, hW3⟩ : ∃ W, W = w1.alloc (.cells (row8 zX (.slice none 0 0)) 76) := ⟨_, rfl⟩
    have b3 : Below w1.heap.size w1 W3 := by rw [hW3]; exact bAl (Below.refl _ _) _
    have K3 := show RowIs W3 w1.heap.size (row8 zX (.slice none 0 0)) 76 by rw [hW3]; exact RowIs.new _ _ _
    have Z3 := (unhide R1).keep b3
    have B3 := hide (bTr (unhide B1) b3)
    have HW3 := hide hW3.symm
    have d : ((-1 : Int) == (len : Int)) = false := by simp
    clear hg hb1 b3 hW3 R1 B1
    iterate 20 (try (first | go_values | go_skip | go_guarded | go_step | go_upon | go_simp))
    rw [unhide HW3]
    have k0 := K3.at (o := 0) (v := .int .i64 0) rfl
    have k1 := K3.at (o := 1) (v := .string ⟨#[]⟩) rfl
    have k2 := K3.at (o := 2) (v := .int .i64 0) rfl
    have k3 := K3.at (o := 3) (v := .int .i64 0) rfl
    have k4 := K3.at (o := 4) (v := .string ⟨#[]⟩) rfl
    have k5 := K3.at (o := 5) (v := .string ⟨#[]⟩) rfl
    have k6 := K3.at (o := 6) (v := .int .i64 0) rfl
    have k7 := K3.at (o := 7) (v := .slice none 0 0) rfl
    have j0 := Z3.at (o := 0) (v := .int .i64 0) rfl
    have j1 := Z3.at (o := 1) (v := .string ⟨#[]⟩) rfl
    have j2 := Z3.at (o := 2) (v := .int .i64 0) rfl
    have j3 := Z3.at (o := 3) (v := .int .i64 0) rfl
    have j4 := Z3.at (o := 4) (v := .string ⟨#[]⟩) rfl
    have j5 := Z3.at (o := 5) (v := .string ⟨#[]⟩) rfl
    have j6 := Z3.at (o := 6) (v := .int .i64 0) rfl
    have j7 := Z3.at (o := 7) (v := .slice none 0 0) rfl
    have y0 := Z3.froz 0
    have y1 := Z3.froz 1
    have y2 := Z3.froz 2
    have y3 := Z3.froz 3
    have y4 := Z3.froz 4
    have y5 := Z3.froz 5
    have y6 := Z3.froz 6
    have y7 := Z3.froz 7
    clear K3 Z3 HW3
    go_wp2_with fail
    go_region
    go_wp2_with fail
    refine bodyPost_ret (v := .tuple #[agg8 zX (.slice none 0 0), .bool false]) (by simp [results, Try.results50, go_sem, j0, j1, j2, j3, j4, j5, j6, j7]) rfl ⟨.inl ⟨unhide no, _, _, _, _, rfl⟩, ?_⟩
    refine Below.drew ?_
    (repeat (refine Below.setCell ?_ (by simp) _))
    exact unhide B3
  · obtain ⟨Y, hY⟩ : ∃ Y, t.n = Y := ⟨_, rfl⟩
    rw [hY]
    obtain ⟨sa, sc, sn, rfl⟩ : ∃ a cap n, s = .slice a n cap := by obtain ⟨_, _, a, cap, e, _⟩ := htr; exact ⟨_, _, _, e⟩
    obtain ⟨W3, hW3⟩ : ∃ W, W = w1.alloc (.cells (row8 Y (.slice sa sn sc)) 76) := ⟨_, rfl⟩
    have b3 : Below w1.heap.size w1 W3 := by rw [hW3]; exact bAl (Below.refl _ _) _
    have K3 := show RowIs W3 w1.heap.size (row8 Y (.slice sa sn sc)) 76 by rw [hW3]; exact RowIs.new _ _ _
    have Z3 := (unhide R1).keep b3
    have B3 := hide (bTr (unhide B1) b3)
    rw [s0] at htr
    have TR := hide (htr.keptY ((KeptY.refl _ _).below b3 (Nat.le_refl _)))
    have HG := hide hg
    have HY := hide hY
    have HW3 := hide hW3.symm
    have HL := hide (unhide HS).1
    have gi := hide (GExpr.iff hg h60)
    clear hb1 b3 hW3 R1 B1 htr hg hY
    iterate 20 (try (first | go_values | go_skip | go_guarded | go_step | go_upon | go_simp))
    rw [unhide HW3]
    clear HW3
    have k0 := K3.at (o := 0) (v := .int .i64 Y.f0) rfl
    have k1 := K3.at (o := 1) (v := .string Y.f1) rfl
    have k2 := K3.at (o := 2) (v := .int .i64 Y.f2) rfl
    have k3 := K3.at (o := 3) (v := .int .i64 Y.f3) rfl
    have k4 := K3.at (o := 4) (v := .string Y.f4) rfl
    have k5 := K3.at (o := 5) (v := .string Y.f5) rfl
    have k6 := K3.at (o := 6) (v := .int .i64 Y.f6) rfl
    have k7 := K3.at (o := 7) (v := .slice sa sn sc) rfl
    have j0 := Z3.at (o := 0) (v := .int .i64 0) rfl
    have j1 := Z3.at (o := 1) (v := .string ⟨#[]⟩) rfl
    have j2 := Z3.at (o := 2) (v := .int .i64 0) rfl
    have j3 := Z3.at (o := 3) (v := .int .i64 0) rfl
    have j4 := Z3.at (o := 4) (v := .string ⟨#[]⟩) rfl
    have j5 := Z3.at (o := 5) (v := .string ⟨#[]⟩) rfl
    have j6 := Z3.at (o := 6) (v := .int .i64 0) rfl
    have j7 := Z3.at (o := 7) (v := .slice none 0 0) rfl
    have y0 := Z3.froz 0
    have y1 := Z3.froz 1
    have y2 := Z3.froz 2
    have y3 := Z3.froz 3
    have y4 := Z3.froz 4
    have y5 := Z3.froz 5
    have y6 := Z3.froz 6
    have y7 := Z3.froz 7
    by_cases he : at2 = len
    · subst he
      have hd : Hid (l.drop at2 = []) := hide (by rw [unhide HL, List.drop_length])
      obtain ⟨LO, hLO⟩ : ∃ LO, LO = w.heap.size + 1 := ⟨_, rfl⟩
      rw [← hLO] at TR
      have q := hide (fun w h => l10Right_any 12 w LO (.slice sa sn sc) t h (takeT_all 12 l t _ (unhide HG) (unhide HO)).1)
      rw [unhide HY] at q
      have TR' := hide (fun W (h : KeptY LO W3 W) => (unhide TR).keptY h)
      have HLO := hide hLO
      replace K3 := hide K3
      replace Z3 := hide Z3
      have d : ((at2 : Int) == (at2 : Int)) = true := by simp
      clear hLO
      go_wp2_with fail
      go_region_with (go_at_call 57; refine (unhide q _ (unhide TR' _ (by exact ⟨Nat.le_refl _, fun _ _ _ => rfl⟩))).mono ?_; rintro e w4 ⟨⟨b4, rfl, h4⟩, hb4⟩; have H4 := hide h4; have HB4 := hide (undrew hb4); have K4 := (unhide K3).keep (undrew hb4); have Z4 := (unhide Z3).keep (undrew hb4); have a0 := K4.at (o := 0) (v := .int .i64 Y.f0) rfl; have a1 := K4.at (o := 1) (v := .string Y.f1) rfl; have a2 := K4.at (o := 2) (v := .int .i64 Y.f2) rfl; have a3 := K4.at (o := 3) (v := .int .i64 Y.f3) rfl; have a4 := K4.at (o := 4) (v := .string Y.f4) rfl; have a5 := K4.at (o := 5) (v := .string Y.f5) rfl; have a6 := K4.at (o := 6) (v := .int .i64 Y.f6) rfl; have a7 := K4.at (o := 7) (v := .slice sa sn sc) rfl; have m0 := Z4.at (o := 0) (v := .int .i64 0) rfl; have m1 := Z4.at (o := 1) (v := .string ⟨#[]⟩) rfl; have m2 := Z4.at (o := 2) (v := .int .i64 0) rfl; have m3 := Z4.at (o := 3) (v := .int .i64 0) rfl; have m4 := Z4.at (o := 4) (v := .string ⟨#[]⟩) rfl; have m5 := Z4.at (o := 5) (v := .string ⟨#[]⟩) rfl; have m6 := Z4.at (o := 6) (v := .int .i64 0) rfl; have m7 := Z4.at (o := 7) (v := .slice none 0 0) rfl; have o0 := Z4.froz 0; have o1 := Z4.froz 1; have o2 := Z4.froz 2; have o3 := Z4.froz 3; have o4 := Z4.froz 4; have o5 := Z4.froz 5; have o6 := Z4.froz 6; have o7 := Z4.froz 7; clear h4 hb4 K4 Z4)
      all_goals go_wp2_with fail
      all_goals refine bodyPost_ret (v := .tuple #[agg8 Y (.slice sa sn sc), .bool b4]) (by simp [results, Try.results50, go_sem, m0, m1, m2, m3, m4, m5, m6, m7]) rfl ⟨?_, ?_⟩
      all_goals (first
        | (refine Below.setCell ?_ (by simp) _; (repeat (refine Below.setCell ?_ (by simp) _)); exact bTr (unhide B3) (unhide HB4))
        | (cases b4 with
          | false => exact .inl ⟨fun h => (by have := (unhide H4).2 ((unhide gi).1 h).2; cases this), _, _, _, _, rfl⟩
          | true =>
            refine .inr ⟨(unhide gi).2 ⟨unhide hd, (unhide H4).1 rfl⟩, t, sa, sn, sc, by rw [unhide HY], by rw [unhide HG, unhide hd], (unhide H4).1 rfl, ?_⟩
            refine (unhide TR' _ ?_).low (by rw [unhide HLO]; omega)
            (repeat (refine KeptY.set ?_ _ _ _ (by rw [unhide HLO]; omega)))
            exact (KeptY.refl _ _).below (unhide HB4) (Nat.le_refl _)))
    · have d : ((at2 : Int) == (len : Int)) = false := by simp; omega
      have no : Hid (¬ GExpr l) := hide (fun h => by
        have := ((unhide gi).1 h).1
        rw [List.drop_eq_nil_iff] at this
        have := unhide HL
        omega)
      clear K3 Z3 gi TR HG HO HS ha2
      go_wp2_with fail
      go_region
      go_wp2_with fail
      refine bodyPost_ret (v := .tuple #[agg8 Y (.slice sa sn sc), .bool false]) (by simp [results, Try.results50, go_sem, j0, j1, j2, j3, j4, j5, j6, j7]) rfl ⟨.inl ⟨unhide no, _, _, _, _, rfl⟩, ?_⟩
      refine Below.drew ?_
      (repeat (refine Below.setCell ?_ (by simp) _))
      exact unhide B3

set_option maxHeartbeats 1000000 in
theorem sGoodExpr_any (a : Option Addr) (len cap : Nat) (l : List ExprT) (w : World) (hl : len ≤ 1048576) (hs : SlExpr w a len l) (hok : ∀ q ∈ l, OkX q) :
    Calls Try.prog 34 #[.slice a len cap] w fun e w' => RetB e (GExpr l) ∧ Below w.heap.size w w' := by
  have q := hide (l10Tree_any a len cap l w hl hs hok)
  clear hs hok
  go_enter Try.func34, Try.ntmps34
  go_wp2_with fail
  refine (unhide q).mono ?_
  rintro e w1 ⟨(⟨h, X, sa, sn, sc, rfl⟩ | ⟨h, t, sa, sn, sc, rfl, _⟩), hb1⟩
  · have H := hide h
    clear h q
    go_wp2_with fail
    go_ret
    exact ⟨retB (b := false) ⟨fun h => (by cases h), fun h => absurd h (unhide H)⟩, bAl hb1 _⟩
  · have H := hide h
    clear h q
    generalize t.n = X
    go_wp2_with fail
    go_ret
    exact ⟨retB (b := true) ⟨fun _ => unhide H, fun _ => rfl⟩, bAl hb1 _⟩
end Go.Proofs.Ytcajlndbaipcaaa.V
