/- FRq, YRj, one behind the other. -/
import Derived.Test.YteaidfighimoiaaGreatJ19
import Derived.Test.YteaidfighimoiaaGreatJ18
/- What litAskOf asks, in the fragment's words: pure. -/
namespace Go.Proofs.YteaidfighimoiaaGreat.V
open Go.RowKit Go.Maps

theorem var_ne (s : ByteArray) : varP s ↔ (s = bPri ∨ s = bAct ∨ s = bRes ∨ s = bCon) := by
  rw [← var_mem]; simp
theorem bAC : bAct ≠ bCon := by intro h; have := congrArg (fun b : ByteArray => b.data.size) h; simp at this
theorem bPC : bPri ≠ bCon := by intro h; have := congrArg (fun b : ByteArray => b.data.size) h; simp at this
theorem bRC : bRes ≠ bCon := by intro h; have := congrArg (fun b : ByteArray => b.data.size) h; simp at this
theorem bPA : bPri ≠ bAct := by intro h; have := congrArg (fun b : ByteArray => b.data.size) h; simp at this
theorem bRA : bRes ≠ bAct := by intro h; have := congrArg (fun b : ByteArray => b.data.size) h; simp at this
theorem bCA : bCon ≠ bAct := fun h => bAC h.symm
theorem Fit.varP {t : ET} (h : Fit t) (h3 : t.n.f0 = 3) : varP t.n.f1 := by
  cases t with
  | node x ks =>
    have := h.out.1.2.2.2
    simp only [ET.n] at h3
    unfold txtP at this
    rw [if_neg (by omega), if_pos h3] at this
    exact this
theorem varT_con {t : ET} (h : Fit t) : VarT [bPri, bRes, bAct] t ↔ (t.n.f0 = 3 ∧ t.n.f1 ≠ bCon) := by
  unfold VarT
  constructor
  · rintro ⟨h3, hm⟩
    simp only [List.mem_cons, List.not_mem_nil, or_false] at hm
    refine ⟨h3, ?_⟩
    rcases hm with e | e | e <;> rw [e]
    · exact bPC
    · exact bRC
    · exact bAC
  · rintro ⟨h3, hn⟩
    refine ⟨h3, ?_⟩
    rcases (var_ne _).1 (h.varP h3) with e | e | e | e
    · simp [e]
    · simp [e]
    · simp [e]
    · exact absurd e hn
theorem varT_act {t : ET} (h : Fit t) : VarT [bPri, bRes, bCon] t ↔ (t.n.f0 = 3 ∧ t.n.f1 ≠ bAct) := by
  unfold VarT
  constructor
  · rintro ⟨h3, hm⟩
    simp only [List.mem_cons, List.not_mem_nil, or_false] at hm
    refine ⟨h3, ?_⟩
    rcases hm with e | e | e <;> rw [e]
    · exact bPA
    · exact bRA
    · exact bCA
  · rintro ⟨h3, hn⟩
    refine ⟨h3, ?_⟩
    rcases (var_ne _).1 (h.varP h3) with e | e | e | e
    · simp [e]
    · exact absurd e hn
    · simp [e]
    · simp [e]
theorem Fit.one {t : ET} (h : Fit t) (ha : ari t.n.f0 = 1) : ∃ k, t.kids = [k] ∧ Fit k := by
  cases t with
  | node x ks =>
    simp only [ET.n] at ha
    have hl := h.len (by intro e; rw [e] at ha; simp [ari] at ha)
    rw [ha] at hl
    match ks, hl, h with
    | [k], _, h => exact ⟨k, rfl, h.out.2.2.1 k (by simp)⟩
    | [], hl, _ => simp at hl
    | _ :: _ :: _, hl, _ => simp at hl; omega
theorem pathT_iff {t : ET} (h : Fit t) : PathT t ↔ (t.n.f0 = 4 ∧ (t.kids.getD 0 zT).n.f0 = 3 ∧ (t.kids.getD 0 zT).n.f1 ≠ bAct) := by
  unfold PathT
  constructor
  · rintro ⟨h4, hv⟩
    obtain ⟨k, e, hk⟩ := h.one (by rw [h4]; simp [ari])
    rw [e] at hv ⊢
    exact ⟨h4, (varT_act hk).1 hv⟩
  · rintro ⟨h4, hv⟩
    obtain ⟨k, e, hk⟩ := h.one (by rw [h4]; simp [ari])
    rw [e] at hv ⊢
    exact ⟨h4, (varT_act hk).2 hv⟩
def swapK (kd : Int) (k1 : ET) : Prop := k1.n.f0 = 4 ∧ (kd = 11 ∨ kd = 12 ∨ kd = 13)
def AskP (kd : Int) (ka kb : ET) : Prop := kb.n.f0 = 1 ∧ ((ka.n.f0 = 3 ∧ ka.n.f1 ≠ bCon ∧ (kd = 11 ∨ kd = 17)) ∨ (ka.n.f0 = 4 ∧ (ka.kids.getD 0 zT).n.f0 = 3 ∧ (ka.kids.getD 0 zT).n.f1 ≠ bAct ∧ (kd = 11 ∨ kd = 12 ∨ kd = 13 ∨ kd = 18)))
def LitP (kd : Int) (k0 k1 : ET) : Prop := (swapK kd k1 ∧ AskP kd k1 k0) ∨ (¬ swapK kd k1 ∧ AskP kd k0 k1)
theorem AskP.iff {kd : Int} {ka kb : ET} (ha : Fit ka) : AskP kd ka kb ↔ (LitT kb ∧ ((VarT [bPri, bRes, bAct] ka ∧ (kd = 11 ∨ kd = 17)) ∨ (PathT ka ∧ (kd = 11 ∨ kd = 12 ∨ kd = 13 ∨ kd = 18)))) := by
  unfold AskP LitT
  rw [varT_con ha, pathT_iff ha]
  simp only [and_assoc]
/-- The clause of a pair that is no ExprAnd or ExprOr. -/
def PairN (kd : Int) (k0 k1 : ET) : Prop :=
  if kd = 17 then LitT k1 ∧ VarT [bPri, bRes, bAct] k0
  else if kd = 18 then LitT k1 ∧ PathT k0
  else if kd = 11 then (LitT k1 ∧ VarT [bPri, bRes, bAct] k0) ∨ (LitT k1 ∧ PathT k0) ∨ (PathT k1 ∧ LitT k0)
  else if kd = 12 ∨ kd = 13 then (LitT k1 ∧ PathT k0) ∨ (PathT k1 ∧ LitT k0)
  else False
theorem LitP.iff {kd : Int} {k0 k1 : ET} (h0 : Fit k0) (h1 : Fit k1) : LitP kd k0 k1 ↔ PairN kd k0 k1 := by
  unfold LitP
  rw [AskP.iff h0, AskP.iff h1]
  have v4 : ∀ {ws : List ByteArray} {t : ET}, t.n.f0 = 4 → ¬ VarT ws t := fun h hv => by have := hv.1; omega
  have l4 : ∀ {t : ET}, t.n.f0 = 4 → ¬ LitT t := fun h hv => by unfold LitT at hv; omega
  have p4 : ∀ {t : ET}, PathT t → t.n.f0 = 4 := fun h => h.1
  unfold swapK PairN
  by_cases g17 : kd = 17
  · subst g17; simp
  by_cases g18 : kd = 18
  · subst g18; simp
  by_cases g11 : kd = 11
  · subst g11
    simp only [if_neg g17, if_neg g18, if_pos, true_or, and_true]
    by_cases h4 : k1.n.f0 = 4
    · constructor
      · rintro (⟨_, hl, hv | hp⟩ | ⟨h, _⟩)
        · exact absurd hv (v4 h4)
        · exact .inr (.inr ⟨hp, hl⟩)
        · exact absurd h4 h
      · rintro (⟨hl, _⟩ | ⟨hl, _⟩ | ⟨hp, hl⟩)
        · exact absurd hl (l4 h4)
        · exact absurd hl (l4 h4)
        · exact .inl ⟨h4, hl, .inr hp⟩
    · constructor
      · rintro (⟨h, _⟩ | ⟨_, hl, hv | hp⟩)
        · exact absurd h h4
        · exact .inl ⟨hl, hv⟩
        · exact .inr (.inl ⟨hl, hp⟩)
      · rintro (⟨hl, hv⟩ | ⟨hl, hp⟩ | ⟨hp, _⟩)
        · exact .inr ⟨h4, hl, .inl hv⟩
        · exact .inr ⟨h4, hl, .inr hp⟩
        · exact absurd (p4 hp) h4
  by_cases g12 : kd = 12 ∨ kd = 13
  · have e1 : (kd = 11 ∨ kd = 17) ↔ False := by simp [g11, g17]
    have e2 : (kd = 11 ∨ kd = 12 ∨ kd = 13) ↔ True := by simp [g12]
    have e3 : (kd = 11 ∨ kd = 12 ∨ kd = 13 ∨ kd = 18) ↔ True := by rcases g12 with h | h <;> simp [h]
    simp only [if_neg g17, if_neg g18, if_neg g11, if_pos g12, e1, e2, e3, and_false, false_or, and_true]
    by_cases h4 : k1.n.f0 = 4
    · constructor
      · rintro (⟨_, hl, hp⟩ | ⟨h, _⟩)
        · exact .inr ⟨hp, hl⟩
        · exact absurd h4 h
      · rintro (⟨hl, _⟩ | ⟨hp, hl⟩)
        · exact absurd hl (l4 h4)
        · exact .inl ⟨h4, hl, hp⟩
    · constructor
      · rintro (⟨h, _⟩ | ⟨_, hl, hp⟩)
        · exact absurd h h4
        · exact .inl ⟨hl, hp⟩
      · rintro (⟨hl, hp⟩ | ⟨hp, _⟩)
        · exact .inr ⟨h4, hl, hp⟩
        · exact absurd (p4 hp) h4
  · have e1 : (kd = 11 ∨ kd = 17) ↔ False := by simp [g11, g17]
    have e3 : (kd = 11 ∨ kd = 12 ∨ kd = 13 ∨ kd = 18) ↔ False := by
      simp only [iff_false]; omega
    simp only [if_neg g17, if_neg g18, if_neg g11, if_neg g12, e1, e3, and_false, or_false]
/-- The clauses, one by one. -/
theorem FragN.pair {r : Nat} {x : ExprT} {k0 k1 : ET} (h : 8 ≤ x.f0 ∧ x.f0 ≤ 19 ∧ x.f0 ≠ 10) : FragN (r + 1) (.node x [k0, k1]) ↔ (PairN x.f0 k0 k1 ∨ ((x.f0 = 8 ∨ x.f0 = 9) ∧ FragN r k0 ∧ FragN r k1)) := by
  have n1 : ¬ x.f0 = 1 := by omega
  have n4 : ¬ (x.f0 = 4 ∨ x.f0 = 5) := by omega
  have n21 : ¬ x.f0 = 21 := by omega
  simp only [FragN, if_neg n1, if_neg n4, if_neg n21, List.getD_cons_zero, List.getD_cons_succ]
  unfold PairN
  by_cases h8 : x.f0 = 8 ∨ x.f0 = 9
  · have a1 : ¬ x.f0 = 17 := by omega
    have a2 : ¬ x.f0 = 18 := by omega
    have a3 : ¬ x.f0 = 11 := by omega
    have a4 : ¬ (x.f0 = 12 ∨ x.f0 = 13) := by omega
    have a5 : x.f0 = 6 ∨ x.f0 = 8 ∨ x.f0 = 9 ∨ x.f0 = 10 := by omega
    rw [if_pos a5]
    simp [a1, a2, a3, a4, h8]
  · have a5 : ¬ (x.f0 = 6 ∨ x.f0 = 8 ∨ x.f0 = 9 ∨ x.f0 = 10) := by omega
    rw [if_neg a5]
    simp only [h8, false_and, or_false]
end Go.Proofs.YteaidfighimoiaaGreat.V
/- spec.l10Right. -/
namespace Go.Proofs.YteaidfighimoiaaGreat.V
open Go.RowKit Go.Maps

theorem ari_rng (k : Int) : ari k = -1 ∨ ari k = -2 ∨ 0 ≤ ari k := by
  unfold ari
  repeat' split
  all_goals simp
theorem take_all {P : ET → Prop} {ks : List ET} {k : Nat} (h : k < ks.length) : (∀ q ∈ ks.take (k + 1), P q) ↔ ((∀ q ∈ ks.take k, P q) ∧ P ks[k]) := by
  rw [List.take_succ_eq_append_getElem h]
  constructor
  · intro g; exact ⟨fun q hq => g q (List.mem_append_left _ hq), g _ (List.mem_append_right _ (List.mem_singleton_self _))⟩
  · rintro ⟨g1, g2⟩ q hq
    rw [List.mem_append, List.mem_singleton] at hq
    rcases hq with hq | rfl
    · exact g1 q hq
    · exact g2
theorem bool_of (p : Prop) : ∃ T : Bool, (T = true ↔ p) := ⟨@decide p (Classical.propDecidable _), by simp⟩
def OkX (q : ExprT) : Prop := q.Ok ∧ q.f1.size ≤ 1048576

set_option maxRecDepth 20000 in
set_option maxHeartbeats 4000000 in
theorem l10Right_step (r : Nat) (ih : ∀ (w : World) (lo : Nat) (s : Value) (t : ET), TrAt r w lo s t → AllY OkX t → Calls Tryz.prog 29 #[agg8 t.n s] w fun e w' => RetB e (Right t) ∧ Below w.heap.size w w')
    (w : World) (lo : Nat) (x : ExprT) (ks : List ET) (a : Option Addr) (cap : Nat) (h6 : x.f6 = (ks.length : Int)) (h10 : ks.length ≤ 10) (hx : OkX x)
    (hk : ks = [] ∨ ∃ b, a = some ⟨b, 0, none⟩ ∧ lo ≤ b ∧ b < w.heap.size ∧ ∀ i (h : i < ks.length), ∃ s', At8 w b (i * 8) ks[i].n s' ∧ TrAt r w lo s' ks[i]) (ha : ∀ k ∈ ks, AllY OkX k) :
    Calls Tryz.prog 29 #[agg8 x (.slice a ks.length cap)] w fun e w' => RetB e (Right (.node x ks)) ∧ Below w.heap.size w w' := by
  have RI := hide (right_iff h6 h10)
  have q1 := hide (l10Arity_any x.f0)
  have hr : Hid (ari x.f0 = -1 ∨ ari x.f0 = -2 ∨ 0 ≤ ari x.f0) := hide (ari_rng _)
  generalize ari x.f0 = A at *
  have IH := hide ih
  have HK := hide hk
  have HA := hide ha
  have HX := hide hx
  clear ih hk ha hx h6
  obtain ⟨W2, hW2⟩ : ∃ W, W = (w.alloc (.cells (row8 x (.slice a ks.length cap)) 47)).alloc (.cells (eRow x) 44) := ⟨_, rfl⟩
  have B2 : Hid (Below w.heap.size w W2) := hide (by rw [hW2]; exact bAl (bAl (Below.refl _ _) _) _)
  have P2 : Hid (RowIs W2 w.heap.size (row8 x (.slice a ks.length cap)) 47) := hide (by rw [hW2]; exact (RowIs.new w _ _).keep (bAl (Below.refl _ _) _))
  have N2 : Hid (RowIs W2 (w.heap.size + 1) (eRow x) 44) := hide (by
    rw [hW2]
    have := RowIs.new (w.alloc (.cells (row8 x (.slice a ks.length cap)) 47)) (eRow x) 44
    simpa using this)
  have HW2 := hide hW2.symm
  obtain ⟨T, hT⟩ := bool_of (¬ (A ≠ -1 ∧ (0 ≤ A → (ks.length : Int) = A) ∧ (x.f0 = 1 ∨ zEx x)))
  have HT := hide hT
  have cx : ∀ (o : Nat) (v : Value), (eRow x)[o]? = some v → W2.cell? ⟨w.heap.size + 1, o, none⟩ = some v := fun o v h => (unhide N2).at h
  have x0 := cx 0 (.int .i64 x.f0) rfl
  have x1 := cx 1 (.string x.f1) rfl
  have x2 := cx 2 (.int .i64 x.f2) rfl
  have x3 := cx 3 (.int .i64 x.f3) rfl
  have x4 := cx 4 (.string x.f4) rfl
  have x5 := cx 5 (.string x.f5) rfl
  have x6 := cx 6 (.int .i64 x.f6) rfl
  have p7 := (unhide P2).at (o := 7) (v := .slice a ks.length cap) rfl
  clear hW2 hT cx
  go_enter Tryz.func29, Tryz.ntmps29
  go_wp2_with fail
  refine (unhide q1 _).mono ?_
  rintro e w1 ⟨rfl, rfl⟩
  rw [unhide HW2]
  generalize agg8 x (.slice a ks.length cap) = V0
  go_upto_region 3 with fail
  go_cut [38] (fun c wx => c = .bool T ∧ W2 = wx)
  case first =>
    clear q1 HW2 IH HK HA HX RI
    have hT := unhide HT
    clear HT
    obtain ⟨f0, f1, f2, f3, f4, f5, f6⟩ := x
    simp only [zEx] at *
    by_cases hA1 : A = -1
    · have et : T = true := hT.2 (fun h => h.1 hA1)
      subst hA1
      clear hT
      go_wp2_with fail
      go_meet
      exact ⟨by rw [et], rfl⟩
    by_cases hA2 : 0 ≤ A ∧ ¬ (ks.length : Int) = A
    · have et : T = true := hT.2 (fun h => hA2.2 (h.2.1 hA2.1))
      obtain ⟨g1, g2⟩ := hA2
      clear hT
      go_wp2_with fail
      go_meet
      exact ⟨by rw [et], rfl⟩
    have dA : (A == -1) = false := by simpa using hA1
    have hC : 0 ≤ A → (ks.length : Int) = A := fun h => Classical.byContradiction fun h' => hA2 ⟨h, h'⟩
    by_cases g0 : f0 = 1
    · have et : T = false := by
        cases T with
        | false => rfl
        | true => exact absurd ⟨hA1, hC, .inl g0⟩ (hT.1 rfl)
      subst g0
      clear hT hA2
      by_cases gA : 0 ≤ A
      · have gl := hC gA
        clear hC
        go_wp2_with fail
        all_goals go_meet
        all_goals exact ⟨by rw [et], rfl⟩
      · clear hC
        go_wp2_with fail
        all_goals go_meet
        all_goals exact ⟨by rw [et], rfl⟩
    · have et : T = true ↔ ¬ (f2 = 0 ∧ f3 = 0 ∧ f4 = empE ∧ f5 = empE) := hT.trans ⟨fun h h' => h ⟨hA1, hC, .inr h'⟩, fun h h' => h (h'.2.2.resolve_left g0)⟩
      simp only [empE_iff] at et
      have ET' := hide et
      have dF : (f0 != 1) = true := by simpa using g0
      clear hT hA2 et
      by_cases gA : 0 ≤ A
      · have gl := hC gA
        clear hC
        go_wp2_with fail
        all_goals go_meet
        all_goals refine ⟨?_, rfl⟩
        all_goals replace ET' := unhide ET'
        all_goals cases T
        all_goals simp_all
      · clear hC
        go_wp2_with fail
        all_goals go_meet
        all_goals refine ⟨?_, rfl⟩
        all_goals replace ET' := unhide ET'
        all_goals cases T
        all_goals simp_all
  case rest =>
    obtain ⟨rfl, rfl⟩ := hcut
    cases T with
    | true =>
      have no : Hid (¬ Right (.node x ks)) := hide (fun h => ((unhide HT).1 rfl) ((unhide RI).1 h).1)
      clear HT RI IH HK HA HX
      go_wp2_with fail
      go_ret
      exact ⟨retB (b := false) ⟨fun h => (by cases h), fun h => absurd h (unhide no)⟩, unhide B2⟩
    | false =>
      have C1 : Hid (A ≠ -1 ∧ (0 ≤ A → (ks.length : Int) = A) ∧ (x.f0 = 1 ∨ zEx x)) := hide (Classical.byContradiction fun h => by have := (unhide HT).2 h; cases this)
      clear HT
      go_upto_block 0 with fail
      go_cut [5, 6, 7] (fun c s6 s7 wx => ∃ ok : Bool, c = .bool ok ∧ Hid (ok = true ↔ txtP x) ∧ Hid (Below W2.heap.size W2 wx))
      case first =>
        have N2' := N2
        clear IH HK HA RI C1 hr q1 P2 p7 B2
        obtain ⟨f0, f1, f2, f3, f4, f5, f6⟩ := x
        simp only at *
        by_cases g1 : f0 = 1
        · have et : Hid (txtP ⟨f0, f1, f2, f3, f4, f5, f6⟩ ↔ (f1.toList.isEmpty = true ∧ goodAtom f2 f3 f4 f5 = true)) := hide (by unfold txtP; rw [if_pos g1]; simp [empE_iff])
          have q := hide (fun w => sGoodAtom_any f2 f3 f4 f5 w (unhide HX).1.n9 (unhide HX).1.o4 (unhide HX).1.o5)
          subst g1
          generalize goodAtom f2 f3 f4 f5 = G at *
          clear HX
          cases he : f1.toList.isEmpty
          · rw [he] at et
            go_wp2_with fail
            go_meet
            exact ⟨false, rfl, hide (by rw [unhide et]; simp), hide (Below.refl _ _)⟩
          · rw [he] at et
            go_wp2_with fail
            refine (unhide q _).mono ?_
            rintro e w3 ⟨rfl, hb3⟩
            have HB := hide hb3
            clear hb3
            go_wp2_with fail
            go_meet
            exact ⟨_, rfl, hide (by rw [unhide et]; simp), HB⟩
        by_cases g3 : f0 = 3
        · have et : Hid (txtP ⟨f0, f1, f2, f3, f4, f5, f6⟩ ↔ varP f1) := hide (by unfold txtP; rw [if_neg g1, if_pos g3])
          subst g3
          have VM := hide (var_mem f1)
          generalize varP f1 = V at *
          have zN := (unhide N2).lt
          clear HX g1
          go_wp2_with fail
          go_region_with (first
            | (go_at_call 50; refine (l10Vars_any _).mono ?_; rintro e w3 ⟨⟨a3, c3, rfl, hs3⟩, hb3⟩; have y1 : w3.cell? ⟨w.heap.size + 1, 1, none⟩ = some (.string f1) := cellG (undrew hb3) zN x1; have HS3 := hide hs3; have HB3 := hide (undrew hb3); clear hs3 hb3)
            | (go_at_call 49; refine (l3Has_anyY _ 4 _ _ f1 _ (by decide) (unhide HS3)).mono ?_; rintro e w4 ⟨⟨b4, rfl, h4⟩, rfl⟩; have H4 := hide h4; clear h4))
          all_goals go_wp2_with fail
          all_goals go_meet
          all_goals exact ⟨_, rfl, hide (by rw [unhide et, unhide H4, unhide VM]), HB3⟩
        by_cases g4 : f0 = 4 ∨ f0 = 5 ∨ f0 = 21
        · have et : Hid (txtP ⟨f0, f1, f2, f3, f4, f5, f6⟩ ↔ goodName f1 = true) := hide (by unfold txtP; rw [if_neg g1, if_neg g3, if_pos g4])
          have q := hide (sGoodName_any f1 (unhide HX).1.o1)
          generalize goodName f1 = G at *
          clear HX g1 g3
          rcases g4 with rfl | rfl | rfl
          all_goals go_wp2_with fail
          all_goals refine (unhide q _).mono ?_
          all_goals rintro e w3 ⟨rfl, rfl⟩
          all_goals go_wp2_with fail
          all_goals go_meet
          all_goals exact ⟨_, rfl, hide (by rw [unhide et]), hide (Below.refl _ _)⟩
        by_cases g20 : f0 = 20
        · have et : Hid (txtP ⟨f0, f1, f2, f3, f4, f5, f6⟩ ↔ (f1.size ≤ 200 ∧ textL f1 = true ∧ (toks f1.data.toList).isSome = true)) := hide (by unfold txtP; rw [if_neg g1, if_neg g3, if_neg g4, if_pos g20])
          subst g20
          have zN := (unhide N2).lt
          have q := hide (fun w => l1Tokens_any f1 (unhide HX).2 w)
          have qp := hide (fun w => l1Printed_any f1 (unhide HX).1.o1 w)
          have sz := (unhide HX).2
          clear g1 g3 g4 HX
          go_wp2_with fail
          refine (unhide q _).mono ?_
          rintro e w3 ⟨ht, hb3⟩
          have y1 : w3.cell? ⟨w.heap.size + 1, 1, none⟩ = some (.string f1) := cellG hb3 zN x1
          have HB3 := hide hb3
          clear hb3 q
          rcases ht with ⟨h1, rfl⟩ | ⟨ts, v, h1, rfl, _⟩
          · have no : Hid (¬ txtP ⟨20, f1, f2, f3, f4, f5, f6⟩) := hide (fun h => by have := ((unhide et).1 h).2.2; rw [h1] at this; simp at this)
            clear et h1
            go_wp2_with fail
            go_meet
            exact ⟨false, rfl, hide ⟨fun h => (by cases h), fun h => absurd h (unhide no)⟩, HB3⟩
          · have et' : Hid (txtP ⟨20, f1, f2, f3, f4, f5, f6⟩ ↔ (f1.size ≤ 200 ∧ textL f1 = true)) := hide (by rw [unhide et, h1]; simp)
            clear et h1
            generalize textL f1 = X at *
            obtain ⟨av, cv, ev⟩ := own_sl ‹_›
            subst ev
            by_cases h2 : f1.size ≤ 200
            · go_wp2_with fail
              refine (unhide qp _).mono ?_
              rintro e w4 ⟨rfl, rfl⟩
              go_wp2_with fail
              go_meet
              exact ⟨_, rfl, hide (by rw [unhide et']; simp [h2]), HB3⟩
            · go_wp2_with fail
              go_meet
              exact ⟨false, rfl, hide (by rw [unhide et']; simp [h2]), HB3⟩
        · have et : Hid (txtP ⟨f0, f1, f2, f3, f4, f5, f6⟩ ↔ f1.toList.isEmpty = true) := hide (by unfold txtP; rw [if_neg g1, if_neg g3, if_neg g4, if_neg g20]; simp [empE_iff])
          simp only [not_or] at g4
          obtain ⟨g4, g5, g21⟩ := g4
          clear HX
          go_wp2_with fail
          go_meet
          exact ⟨_, rfl, hide (by rw [unhide et]), hide (Below.refl _ _)⟩
      case rest =>
        obtain ⟨ok, rfl, hok, hbx⟩ := hcut
        have P3 := hide ((unhide P2).keep (unhide hbx))
        have N3 := hide ((unhide N2).keep (unhide hbx))
        have p7 := (unhide P3).at (o := 7) (v := .slice a ks.length cap) rfl
        have RI' : Hid (Right (.node x ks) ↔ (txtP x ∧ ∀ k ∈ ks, Right k ∧ (x.f0 ≠ 2 ∨ k.n.f0 = 1))) := hide ⟨fun h => ((unhide RI).1 h).2, fun h => (unhide RI).2 ⟨unhide C1, h⟩⟩
        have bw : Hid (Below w.heap.size w wc) := hide (bTr (unhide B2) (unhide hbx))
        clear RI C1 hr HX x0 x1 x2 x3 x4 x5 x6 q1
        go_wp2_with fail
        go_loopw [5, 88] (fun o i w' => ∃ (k : Nat) (ok' : Bool), k ≤ ks.length ∧ i = .int .i64 k ∧ o = .bool ok' ∧ Hid (ok' = true ↔ (txtP x ∧ ∀ q ∈ ks.take k, Right q ∧ (x.f0 ≠ 2 ∨ q.n.f0 = 1))) ∧ Hid (Below wc.heap.size wc w')) (fun _ i _ => ks.length - (Go.RowKit.intOf i).toNat)
        case atStart => exact ⟨0, ok, Nat.zero_le _, rfl, rfl, hide (by rw [unhide hok]; simp), hide (Below.refl _ _)⟩
        case round =>
          obtain ⟨k, ok', hk, rfl, rfl, hok', hb'⟩ := hrel
          by_cases hlt : k < ks.length
          · rcases unhide HK with e | ⟨b, rfl, hlo, hbz, hcells⟩
            · rw [e] at hlt; simp at hlt
            obtain ⟨s', h8, htr⟩ := hcells k hlt
            have bwr := bTr (unhide bw) (unhide hb')
            have c0 := cellG bwr hbz h8.c0
            have c1 := cellG bwr hbz h8.c1
            have c2 := cellG bwr hbz h8.c2
            have c3 := cellG bwr hbz h8.c3
            have c4 := cellG bwr hbz h8.c4
            have c5 := cellG bwr hbz h8.c5
            have c6 := cellG bwr hbz h8.c6
            have c7 := cellG bwr hbz h8.c7
            have es2 : Hid (∃ a cap n, s' = .slice a n cap) := hide (by
              cases r with
              | zero => exact htr.elim
              | succ r => obtain ⟨_, _, a, cap, e, _⟩ := htr; exact ⟨_, _, _, e⟩)
            obtain ⟨sa, sc, sn, rfl⟩ := unhide es2
            have hst := hide (fun P => take_all (P := P) hlt)
            have hal := hide (unhide HA _ (List.getElem_mem hlt))
            have HTR := hide htr
            generalize ks[k] = K at *
            obtain ⟨Y, hY⟩ : ∃ Y, K.n = Y := ⟨_, rfl⟩
            rw [hY] at c0 c1 c2 c3 c4 c5 c6
            have HY := hide hY
            obtain ⟨W3, hW3⟩ : ∃ W, W = wr.alloc (.cells (row8 Y (.slice sa sn sc)) 47) := ⟨_, rfl⟩
            have b3 : Below wr.heap.size wr W3 := by rw [hW3]; exact bAl (Below.refl _ _) _
            have K3 := hide (show RowIs W3 wr.heap.size (row8 Y (.slice sa sn sc)) 47 by rw [hW3]; exact RowIs.new _ _ _)
            have NN3 := hide (((unhide N3).keep (unhide hb')).keep b3)
            have HB3 := hide (bTr (unhide hb') b3)
            have q := hide (unhide IH W3 lo (.slice sa sn sc) K (htr.keptY ((KeptY.refl lo w).below (bTr bwr b3) (Nat.le_refl _))) (unhide hal))
            rw [hY] at q
            have HW3 := hide hW3.symm
            clear h8 htr hcells bwr hbz hlo hY hW3 b3 es2 hal IH HK
            go_upto_region 21 with fail
            rw [unhide HW3]
            have hnx : Hid ((txtP x ∧ ∀ q ∈ ks.take (k + 1), Right q ∧ (x.f0 ≠ 2 ∨ q.n.f0 = 1)) ↔ ((txtP x ∧ ∀ q ∈ ks.take k, Right q ∧ (x.f0 ≠ 2 ∨ q.n.f0 = 1)) ∧ Right K ∧ (x.f0 ≠ 2 ∨ Y.f0 = 1))) := hide (by
              rw [unhide hst (fun q => Right q ∧ (x.f0 ≠ 2 ∨ q.n.f0 = 1)), unhide HY, and_assoc])
            clear c0 c1 c2 c3 c4 c5 c6 c7 HW3 hst
            have k0 := (unhide K3).at (o := 0) (v := .int .i64 Y.f0) rfl
            have k1 := (unhide K3).at (o := 1) (v := .string Y.f1) rfl
            have k2 := (unhide K3).at (o := 2) (v := .int .i64 Y.f2) rfl
            have k3 := (unhide K3).at (o := 3) (v := .int .i64 Y.f3) rfl
            have k4 := (unhide K3).at (o := 4) (v := .string Y.f4) rfl
            have k5 := (unhide K3).at (o := 5) (v := .string Y.f5) rfl
            have k6 := (unhide K3).at (o := 6) (v := .int .i64 Y.f6) rfl
            have k7 := (unhide K3).at (o := 7) (v := .slice sa sn sc) rfl
            cases ok' with
            | false =>
              have no : Hid (false = true ↔ (txtP x ∧ ∀ q ∈ ks.take (k + 1), Right q ∧ (x.f0 ≠ 2 ∨ q.n.f0 = 1))) := hide (by
                rw [unhide hnx]
                exact ⟨fun h => (by cases h), fun h => (unhide hok').2 h.1⟩)
              clear hok' hnx q
              go_wp2_with fail
              exact ⟨⟨k + 1, false, by omega, by go_num, rfl, no, HB3⟩, by simp [Go.RowKit.intOf]; omega⟩
            | true =>
              have hyes := hide ((unhide hok').1 rfl)
              clear hok'
              go_wp2_with fail
              refine (unhide q).mono ?_
              rintro e w4 ⟨⟨b4, rfl, h4⟩, hb4⟩
              have n0 := ((unhide NN3).keep hb4).at (o := 0) (v := .int .i64 x.f0) rfl
              have g0 := ((unhide K3).keep hb4).at (o := 0) (v := .int .i64 Y.f0) rfl
              have HB4 := hide (bTr (unhide HB3) hb4)
              have fin : Hid ((txtP x ∧ ∀ q ∈ ks.take (k + 1), Right q ∧ (x.f0 ≠ 2 ∨ q.n.f0 = 1)) ↔ (b4 = true ∧ (x.f0 ≠ 2 ∨ Y.f0 = 1))) := hide (by
                rw [unhide hnx, h4]
                exact ⟨fun h => h.2, fun h => ⟨unhide hyes, h⟩⟩)
              clear q k0 k1 k2 k3 k4 k5 k6 k7 h4 hb4 hnx hyes
              cases b4 with
              | false =>
                go_wp2_with fail
                exact ⟨⟨k + 1, false, by omega, by go_num, rfl, hide (by rw [unhide fin]; simp), HB4⟩, by simp [Go.RowKit.intOf]; omega⟩
              | true =>
                by_cases h2 : x.f0 = 2
                · rw [h2] at n0
                  have H2 := hide h2
                  clear h2
                  by_cases h1 : Y.f0 = 1
                  · rw [h1] at g0
                    have H1 := hide h1
                    clear h1
                    go_wp2_with fail
                    exact ⟨⟨k + 1, _, by omega, by go_num, rfl, hide (by rw [unhide fin]; simp [unhide H1]), HB4⟩, by simp [Go.RowKit.intOf]; omega⟩
                  · have d1 : (Y.f0 == 1) = false := by simpa using h1
                    go_wp2_with fail
                    exact ⟨⟨k + 1, _, by omega, by go_num, rfl, hide (by rw [unhide fin]; simp [h1, unhide H2]), HB4⟩, by simp [Go.RowKit.intOf]; omega⟩
                · have d2 : (x.f0 != 2) = true := by simpa using h2
                  go_wp2_with fail
                  exact ⟨⟨k + 1, _, by omega, by go_num, rfl, hide (by rw [unhide fin]; simp [h2]), HB4⟩, by simp [Go.RowKit.intOf]; omega⟩
          · have hd : Hid (ok' = true ↔ Right (.node x ks)) := hide (by
              have := unhide hok'
              rw [List.take_of_length_le (by omega)] at this
              rw [this, unhide RI'])
            clear hok'
            go_wp2_with fail
            go_ret
            exact ⟨retB (unhide hd), bTr (unhide bw) (unhide hb')⟩

theorem l10Right_any : ∀ (r : Nat) (w : World) (lo : Nat) (s : Value) (t : ET), TrAt r w lo s t → AllY OkX t → Calls Tryz.prog 29 #[agg8 t.n s] w fun e w' => RetB e (Right t) ∧ Below w.heap.size w w'
  | 0, _, _, _, _, h, _ => h.elim
  | r + 1, w, lo, s, .node x ks, ⟨h1, h2, a, cap, h3, h4⟩, ha => by
    subst h3
    exact l10Right_step r (l10Right_any r) w lo x ks a cap h1 h2 ha.out.1 h4 ha.out.2
end Go.Proofs.YteaidfighimoiaaGreat.V
