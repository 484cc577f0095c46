/- spec.l3Right. -/
import Derived.Test.YtlkpeolecfemnaaUTm
import Derived.Deep.CutBlock
import Derived.Deep.DeepCutAuto
namespace Go.Proofs.Ytlkpeolecfemnaa.V
open Go.RowKit Go.Maps
/-- All nodes of a tree. -/
inductive AllY (P : FilterNodeT → Prop) : FT → Prop
  | mk {x : FilterNodeT} {ks : List FT} (h : P x) (hk : ∀ k ∈ ks, AllY P k) : AllY P (.node x ks)
theorem AllY.out {P : FilterNodeT → Prop} {x : FilterNodeT} {ks : List FT} (h : AllY P (.node x ks)) : P x ∧ ∀ k ∈ ks, AllY P k := by
  cases h with
  | mk h hk => exact ⟨h, hk⟩
theorem takeK_all {P : FilterNodeT → Prop} {f : List FilterNodeT → Option (FT × List FilterNodeT)} (hf : ∀ l t l', f l = some (t, l') → (∀ q ∈ l, P q) → AllY P t ∧ ∀ q ∈ l', P q) : ∀ (n : Nat) (l : List FilterNodeT) (ks : List FT) (l' : List FilterNodeT), takeK f n l = some (ks, l') → (∀ q ∈ l, P q) → (∀ k ∈ ks, AllY P k) ∧ ∀ q ∈ l', P q
  | 0, l, ks, l', h, hp => by simp [takeK] at h; obtain ⟨rfl, rfl⟩ := h; exact ⟨by simp, hp⟩
  | n + 1, l, ks, l', h, hp => by
    simp only [takeK, Option.bind_eq_some_iff, Option.map_eq_some_iff, Prod.exists, Prod.mk.injEq] at h
    obtain ⟨t, r1, h1, ts, r2, h2, rfl, rfl⟩ := h
    obtain ⟨a1, a2⟩ := hf _ _ _ h1 hp
    obtain ⟨b1, b2⟩ := takeK_all hf n _ _ _ h2 a2
    exact ⟨by simpa using ⟨a1, b1⟩, b2⟩
theorem takeT_all {P : FilterNodeT → Prop} : ∀ (r : Nat) (l : List FilterNodeT) (t : FT) (l' : List FilterNodeT), takeT r l = some (t, l') → (∀ q ∈ l, P q) → AllY P t ∧ ∀ q ∈ l', P q
  | 0, l, t, l', h, _ => by simp [takeT] at h
  | r + 1, [], t, l', h, _ => by simp [takeT] at h
  | r + 1, x :: l, t, l', h, hp => by
    simp only [takeT] at h
    split at h
    · cases h
    · obtain ⟨⟨ks, q⟩, h1, h2⟩ := Option.map_eq_some_iff.1 h
      obtain ⟨rfl, rfl⟩ := by simpa using h2
      obtain ⟨a1, a2⟩ := takeK_all (takeT_all r) _ _ _ _ h1 (fun q hq => hp q (by simp [hq]))
      exact ⟨.mk (hp x (by simp)) a1, a2⟩
theorem take_all {P : FT → Prop} {ks : List FT} {k : Nat} (h : k < ks.length) : (∀ q ∈ ks.take (k + 1), P q) ↔ ((∀ q ∈ ks.take k, P q) ∧ P ks[k]) := by
  rw [List.take_succ_eq_append_getElem h]
  constructor
  · intro g; exact ⟨fun q hq => g q (List.mem_append_left _ hq), g _ (List.mem_append_right _ (List.mem_singleton_self _))⟩
  · rintro ⟨g1, g2⟩ q hq
    rw [List.mem_append, List.mem_singleton] at hq
    rcases hq with hq | rfl
    · exact g1 q hq
    · exact g2
def OkX (q : FilterNodeT) : Prop := q.Ok ∧ q.f2.size ≤ 1048576
theorem right_iff {x : FilterNodeT} {ks : List FT} : Right (.node x ks) ↔ NodeP x ∧ ∀ k ∈ ks, Right k := ⟨fun h => h.out, fun h => .mk h.1 h.2⟩
theorem node_and {x : FilterNodeT} {n : Nat} (h3 : x.f3 = (n : Int)) (hn : n ≤ 20) (h : x.f0 = 1 ∨ x.f0 = 2) : NodeP x ↔ (x.f1 = empE ∧ x.f2 = empE) := by
  unfold NodeP; rw [if_pos h, h3]; exact ⟨fun g => ⟨g.1, g.2.1⟩, fun g => ⟨g.1, g.2, by omega, by omega⟩⟩
theorem node_not {x : FilterNodeT} {n : Nat} (h3 : x.f3 = (n : Int)) (h : x.f0 = 3) : NodeP x ↔ (x.f1 = empE ∧ x.f2 = empE ∧ n = 1) := by
  unfold NodeP; rw [if_neg (by omega), if_pos h, h3]; exact ⟨fun g => ⟨g.1, g.2.1, by omega⟩, fun g => ⟨g.1, g.2.1, by omega⟩⟩
theorem node_has {x : FilterNodeT} {n : Nat} (h3 : x.f3 = (n : Int)) (h : x.f0 = 7) : NodeP x ↔ (goodName x.f1 = true ∧ x.f2 = empE ∧ n = 0) := by
  unfold NodeP; rw [if_neg (by omega), if_neg (by omega), if_pos h, h3]; exact ⟨fun g => ⟨g.1, g.2.1, by omega⟩, fun g => ⟨g.1, g.2.1, by omega⟩⟩
theorem node_txt {x : FilterNodeT} {n : Nat} (h3 : x.f3 = (n : Int)) (h : x.f0 = 4 ∨ x.f0 = 5 ∨ x.f0 = 6 ∨ x.f0 = 8) : NodeP x ↔ ((goodName x.f1 = true ∧ 1 ≤ x.f2.size ∧ x.f2.size ≤ 200 ∧ textL x.f2 = true ∧ n = 0) ∧ (x.f0 = 8 → (toks x.f2.data.toList).isSome = true)) := by
  unfold NodeP; rw [if_neg (by omega), if_neg (by omega), if_neg (by omega), if_pos h, h3]
  exact ⟨fun ⟨g1, ⟨g2, g3, g4⟩, g5, g6⟩ => ⟨⟨g1, g2, g3, g4, by omega⟩, g6⟩, fun ⟨⟨g1, g2, g3, g4, g5⟩, g6⟩ => ⟨g1, ⟨g2, g3, g4⟩, by omega, g6⟩⟩
theorem node_else {x : FilterNodeT} (h : ¬ (x.f0 = 1 ∨ x.f0 = 2 ∨ x.f0 = 3 ∨ x.f0 = 4 ∨ x.f0 = 5 ∨ x.f0 = 6 ∨ x.f0 = 7 ∨ x.f0 = 8)) : ¬ NodeP x := by
  unfold NodeP; rw [if_neg (by omega), if_neg (by omega), if_neg (by omega), if_neg (by omega)]; exact id

set_option maxRecDepth 20000 in
set_option maxHeartbeats 4000000 in
theorem l3Right_step (r : Nat) (ih : ∀ (w : World) (lo : Nat) (s : Value) (t : FT), TrAt r w lo s t → AllY OkX t → Calls Try.prog 17 #[agg8 t.n s] w fun e w' => RetB e (Right t) ∧ Below w.heap.size w w')
    (w : World) (lo : Nat) (x : FilterNodeT) (ks : List FT) (a : Option Addr) (cap : Nat) (h6 : x.f3 = (ks.length : Int)) (h10 : ks.length ≤ 20) (hx : OkX x)
    (hk : ks = [] ∨ ∃ b, a = some ⟨b, 0, none⟩ ∧ lo ≤ b ∧ b < w.heap.size ∧ ∀ i (h : i < ks.length), ∃ s', At8 w b (i * 5) ks[i].n s' ∧ TrAt r w lo s' ks[i]) (ha : ∀ k ∈ ks, AllY OkX k) :
    Calls Try.prog 17 #[agg8 x (.slice a ks.length cap)] w fun e w' => RetB e (Right (.node x ks)) ∧ Below w.heap.size w w' := by
  have IH := hide ih
  have HK := hide hk
  have HA := hide ha
  have HX := hide hx
  have H6 := hide h6
  clear ih hk ha hx h6
  obtain ⟨W2, hW2⟩ : ∃ W, W = (w.alloc (.cells (row8 x (.slice a ks.length cap)) 35)).alloc (.cells (eRow x) 32) := ⟨_, rfl⟩
  have B2 : Hid (Below w.heap.size w W2) := hide (by rw [hW2]; exact bAl (bAl (Below.refl _ _) _) _)
  have P2 : Hid (RowIs W2 w.heap.size (row8 x (.slice a ks.length cap)) 35) := hide (by rw [hW2]; exact (RowIs.new w _ _).keep (bAl (Below.refl _ _) _))
  have N2 : Hid (RowIs W2 (w.heap.size + 1) (eRow x) 32) := hide (by
    rw [hW2]
    have := RowIs.new (w.alloc (.cells (row8 x (.slice a ks.length cap)) 35)) (eRow x) 32
    simpa using this)
  have HW2 := hide hW2.symm
  clear hW2
  go_enter Try.func17, Try.ntmps17
  go_upto_block 0 with fail
  rw [unhide HW2]
  clear HW2
  generalize agg8 x (.slice a ks.length cap) = V0
  go_cut [5] from 10 (fun c wx => ∃ ok, c = .bool ok ∧ Hid (ok = true ↔ NodeP x) ∧ Hid (Below W2.heap.size W2 wx))
  case first =>
    clear IH HK HA P2 B2
    have sz1 := (unhide HX).1.o1
    have sz2 := (unhide HX).1.o2
    have sz3 := (unhide HX).2
    have NA := hide (fun h => node_and (unhide H6) h10 h)
    have NN := hide (fun h => node_not (unhide H6) h)
    have NH := hide (fun h => node_has (unhide H6) h)
    have NT := hide (fun h => node_txt (unhide H6) h)
    have NE := hide (fun h => node_else (x := x) h)
    have q1 := hide (fun w => sGoodName_any x.f1 sz1 w)
    have q2 := hide (fun w => l1Printed_any x.f2 sz2 w)
    have q3 := hide (fun w => l1Tokens_any x.f2 sz3 w)
    generalize NodeP x = NP at *
    obtain ⟨f0, f1, f2, f3⟩ := x
    simp only at *
    clear HX H6
    have x0 := (unhide N2).at (o := 0) (v := .int .i64 f0) rfl
    have x1 := (unhide N2).at (o := 1) (v := .string f1) rfl
    have x2 := (unhide N2).at (o := 2) (v := .string f2) rfl
    unfold maxLen at sz1 sz2
    by_cases g1 : f0 = 1
    · replace NA := hide (unhide NA (by omega))
      subst g1
      clear q1 q2 q3 NN NH NT NE sz1 sz2 sz3
      by_cases e1 : f1 = empE
      · by_cases e2 : f2 = empE
        · subst e1 e2
          go_wp2_with fail
          go_meet
          exact ⟨_, rfl, hide (by rw [unhide NA]; simp), hide (Below.refl _ _)⟩
        · have n2 := notEmpE e2
          go_wp2_with fail
          go_meet
          exact ⟨_, rfl, hide (by rw [unhide NA]; simp [e2]), hide (Below.refl _ _)⟩
      · have n1 := notEmpE e1
        go_wp2_with fail
        go_meet
        exact ⟨_, rfl, hide (by rw [unhide NA]; simp [e1]), hide (Below.refl _ _)⟩
    by_cases g2 : f0 = 2
    · replace NA := hide (unhide NA (by omega))
      subst g2
      clear q1 q2 q3 NN NH NT NE sz1 sz2 sz3
      by_cases e1 : f1 = empE
      · by_cases e2 : f2 = empE
        · subst e1 e2
          go_wp2_with fail
          go_meet
          exact ⟨_, rfl, hide (by rw [unhide NA]; simp), hide (Below.refl _ _)⟩
        · have n2 := notEmpE e2
          go_wp2_with fail
          go_meet
          exact ⟨_, rfl, hide (by rw [unhide NA]; simp [e2]), hide (Below.refl _ _)⟩
      · have n1 := notEmpE e1
        go_wp2_with fail
        go_meet
        exact ⟨_, rfl, hide (by rw [unhide NA]; simp [e1]), hide (Below.refl _ _)⟩
    by_cases g3 : f0 = 3
    · replace NN := hide (unhide NN g3)
      subst g3
      clear q1 q2 q3 NA NH NT NE sz1 sz2 sz3
      by_cases e1 : f1 = empE
      · by_cases e2 : f2 = empE
        · subst e1 e2
          by_cases e3 : ks.length = 1
          · have E3 := hide e3
            have n3 : ((ks.length : Int) == 1) = true := beq_iff_eq.2 (by omega)
            clear e3
            go_wp2_with fail
            go_meet
            exact ⟨_, rfl, hide (by rw [unhide NN]; simp [unhide E3]), hide (Below.refl _ _)⟩
          · have n3 : ((ks.length : Int) == 1) = false := beq_eq_false_iff_ne.2 (fun h => e3 (by omega))
            go_wp2_with fail
            go_meet
            exact ⟨_, rfl, hide (by rw [unhide NN]; simp [e3]), hide (Below.refl _ _)⟩
        · have n2 := notEmpE e2
          go_wp2_with fail
          go_meet
          exact ⟨_, rfl, hide (by rw [unhide NN]; simp [e2]), hide (Below.refl _ _)⟩
      · have n1 := notEmpE e1
        go_wp2_with fail
        go_meet
        exact ⟨_, rfl, hide (by rw [unhide NN]; simp [e1]), hide (Below.refl _ _)⟩
    by_cases g7 : f0 = 7
    · replace NH := hide (unhide NH g7)
      subst g7
      clear q2 q3 NA NN NT NE sz1 sz2 sz3
      generalize goodName f1 = G at *
      go_wp2_with fail
      refine (unhide q1 _).mono ?_
      rintro e w1 ⟨rfl, HB1⟩
      have hb1 : Below W2.heap.size W2 w1 := by first | exact HB1 | (subst HB1; exact Below.refl _ _)
      have x2' := ((unhide N2).keep hb1).at (o := 2) (v := .string f2) rfl
      have HB := hide hb1
      clear hb1 HB1 x0 x1 x2 q1
      cases G
      · go_wp2_with fail
        go_meet
        exact ⟨_, rfl, hide (by rw [unhide NH]; simp), HB⟩
      · by_cases e2 : f2 = empE
        · subst e2
          by_cases e3 : ks.length = 0
          · have E3 := hide e3
            have n3 : ((ks.length : Int) == 0) = true := beq_iff_eq.2 (by omega)
            clear e3
            go_wp2_with fail
            go_meet
            exact ⟨_, rfl, hide (by rw [unhide NH]; simp [unhide E3]), HB⟩
          · have n3 : ((ks.length : Int) == 0) = false := beq_eq_false_iff_ne.2 (fun h => e3 (by omega))
            go_wp2_with fail
            go_meet
            exact ⟨_, rfl, hide (by rw [unhide NH]; simp [e3]), HB⟩
        · have n2 := notEmpE e2
          go_wp2_with fail
          go_meet
          exact ⟨_, rfl, hide (by rw [unhide NH]; simp [e2]), HB⟩
    by_cases g4 : f0 = 4
    · replace NT := hide (unhide NT (by omega))
      subst g4
      clear NA NN NH NE
      go_upto_region 16 with fail
      go_cut [5] from 10 (fun c wx => ∃ b, c = .bool b ∧ Hid (b = true ↔ (goodName f1 = true ∧ 1 ≤ f2.size ∧ f2.size ≤ 200 ∧ textL f2 = true ∧ ks.length = 0)) ∧ Hid (Below W2.heap.size W2 wx))
      case first =>
        clear q3 NT
        generalize goodName f1 = G at *
        generalize textL f2 = X at *
        go_wp2_with fail
        refine (unhide q1 _).mono ?_
        rintro e w1 ⟨rfl, HB1⟩
        have hb1 : Below W2.heap.size W2 w1 := by first | exact HB1 | (subst HB1; exact Below.refl _ _)
        have x2' := ((unhide N2).keep hb1).at (o := 2) (v := .string f2) rfl
        have HB := hide hb1
        clear hb1 HB1 x0 x1 x2 q1
        cases G
        · go_wp2_with fail
          go_meet
          exact ⟨_, rfl, hide (by simp), HB⟩
        · by_cases e1 : 1 ≤ f2.size
          · by_cases e2 : f2.size ≤ 200
            · have i1 : (1 : Int) ≤ (f2.size : Int) := by omega
              have i2 : (f2.size : Int) ≤ 200 := by omega
              go_wp2_with fail
              refine (unhide q2 _).mono ?_
              rintro e w2 ⟨rfl, rfl⟩
              cases X
              · go_wp2_with fail
                go_meet
                exact ⟨_, rfl, hide (by simp), HB⟩
              · by_cases e3 : ks.length = 0
                · have E3 := hide e3
                  have n3 : ((ks.length : Int) == 0) = true := beq_iff_eq.2 (by omega)
                  clear e3
                  go_wp2_with fail
                  go_meet
                  exact ⟨_, rfl, hide (by simp [e1, e2, unhide E3]), HB⟩
                · have n3 : ((ks.length : Int) == 0) = false := beq_eq_false_iff_ne.2 (fun h => e3 (by omega))
                  go_wp2_with fail
                  go_meet
                  exact ⟨_, rfl, hide (by simp [e3]), HB⟩
            · have i1 : (1 : Int) ≤ (f2.size : Int) := by omega
              have i2 : ¬ (f2.size : Int) ≤ 200 := by omega
              go_wp2_with fail
              go_meet
              exact ⟨_, rfl, hide (by simp [e2]), HB⟩
          · have i1 : ¬ (1 : Int) ≤ (f2.size : Int) := by omega
            go_wp2_with fail
            go_meet
            exact ⟨_, rfl, hide (by simp [e1]), HB⟩
      obtain ⟨b5, rfl, hb5, hbx⟩ := hcut
      have NT' := hide ((unhide NT).trans (and_congr (unhide hb5).symm Iff.rfl))
      have x2' := ((unhide N2).keep (unhide hbx)).at (o := 2) (v := .string f2) rfl
      clear NT q1 q2 x0 x1 x2 hb5
      go_wp2_with fail
      refine (unhide q3 _).mono ?_
      rintro e w3 ⟨(⟨ht, rfl⟩ | ⟨ts, v, ht, rfl, _⟩), hb3⟩
      · have HT := hide ht
        have x0' := (((unhide N2).keep (unhide hbx)).keep hb3).at (o := 0) (v := .int .i64 4) rfl
        have HB := hide (bTr (unhide hbx) hb3)
        clear ht hb3 x2' q3
        go_wp2_with fail
        go_meet
        exact ⟨_, rfl, hide (by rw [unhide NT', unhide HT]; simp), HB⟩
      · have HT := hide ht
        have x0' := (((unhide N2).keep (unhide hbx)).keep hb3).at (o := 0) (v := .int .i64 4) rfl
        have HB := hide (bTr (unhide hbx) hb3)
        clear ht hb3 x2' q3
        go_wp2_with fail
        go_meet
        exact ⟨_, rfl, hide (by rw [unhide NT', unhide HT]; simp), HB⟩
    by_cases g5 : f0 = 5
    · replace NT := hide (unhide NT (by omega))
      subst g5
      clear NA NN NH NE
      go_upto_region 16 with fail
      go_cut [5] from 10 (fun c wx => ∃ b, c = .bool b ∧ Hid (b = true ↔ (goodName f1 = true ∧ 1 ≤ f2.size ∧ f2.size ≤ 200 ∧ textL f2 = true ∧ ks.length = 0)) ∧ Hid (Below W2.heap.size W2 wx))
      case first =>
        clear q3 NT
        generalize goodName f1 = G at *
        generalize textL f2 = X at *
        go_wp2_with fail
        refine (unhide q1 _).mono ?_
        rintro e w1 ⟨rfl, HB1⟩
        have hb1 : Below W2.heap.size W2 w1 := by first | exact HB1 | (subst HB1; exact Below.refl _ _)
        have x2' := ((unhide N2).keep hb1).at (o := 2) (v := .string f2) rfl
        have HB := hide hb1
        clear hb1 HB1 x0 x1 x2 q1
        cases G
        · go_wp2_with fail
          go_meet
          exact ⟨_, rfl, hide (by simp), HB⟩
        · by_cases e1 : 1 ≤ f2.size
          · by_cases e2 : f2.size ≤ 200
            · have i1 : (1 : Int) ≤ (f2.size : Int) := by omega
              have i2 : (f2.size : Int) ≤ 200 := by omega
              go_wp2_with fail
              refine (unhide q2 _).mono ?_
              rintro e w2 ⟨rfl, rfl⟩
              cases X
              · go_wp2_with fail
                go_meet
                exact ⟨_, rfl, hide (by simp), HB⟩
              · by_cases e3 : ks.length = 0
                · have E3 := hide e3
                  have n3 : ((ks.length : Int) == 0) = true := beq_iff_eq.2 (by omega)
                  clear e3
                  go_wp2_with fail
                  go_meet
                  exact ⟨_, rfl, hide (by simp [e1, e2, unhide E3]), HB⟩
                · have n3 : ((ks.length : Int) == 0) = false := beq_eq_false_iff_ne.2 (fun h => e3 (by omega))
                  go_wp2_with fail
                  go_meet
                  exact ⟨_, rfl, hide (by simp [e3]), HB⟩
            · have i1 : (1 : Int) ≤ (f2.size : Int) := by omega
              have i2 : ¬ (f2.size : Int) ≤ 200 := by omega
              go_wp2_with fail
              go_meet
              exact ⟨_, rfl, hide (by simp [e2]), HB⟩
          · have i1 : ¬ (1 : Int) ≤ (f2.size : Int) := by omega
            go_wp2_with fail
            go_meet
            exact ⟨_, rfl, hide (by simp [e1]), HB⟩
      obtain ⟨b5, rfl, hb5, hbx⟩ := hcut
      have NT' := hide ((unhide NT).trans (and_congr (unhide hb5).symm Iff.rfl))
      have x2' := ((unhide N2).keep (unhide hbx)).at (o := 2) (v := .string f2) rfl
      clear NT q1 q2 x0 x1 x2 hb5
      go_wp2_with fail
      refine (unhide q3 _).mono ?_
      rintro e w3 ⟨(⟨ht, rfl⟩ | ⟨ts, v, ht, rfl, _⟩), hb3⟩
      · have HT := hide ht
        have x0' := (((unhide N2).keep (unhide hbx)).keep hb3).at (o := 0) (v := .int .i64 5) rfl
        have HB := hide (bTr (unhide hbx) hb3)
        clear ht hb3 x2' q3
        go_wp2_with fail
        go_meet
        exact ⟨_, rfl, hide (by rw [unhide NT', unhide HT]; simp), HB⟩
      · have HT := hide ht
        have x0' := (((unhide N2).keep (unhide hbx)).keep hb3).at (o := 0) (v := .int .i64 5) rfl
        have HB := hide (bTr (unhide hbx) hb3)
        clear ht hb3 x2' q3
        go_wp2_with fail
        go_meet
        exact ⟨_, rfl, hide (by rw [unhide NT', unhide HT]; simp), HB⟩
    by_cases g6 : f0 = 6
    · replace NT := hide (unhide NT (by omega))
      subst g6
      clear NA NN NH NE
      go_upto_region 16 with fail
      go_cut [5] from 10 (fun c wx => ∃ b, c = .bool b ∧ Hid (b = true ↔ (goodName f1 = true ∧ 1 ≤ f2.size ∧ f2.size ≤ 200 ∧ textL f2 = true ∧ ks.length = 0)) ∧ Hid (Below W2.heap.size W2 wx))
      case first =>
        clear q3 NT
        generalize goodName f1 = G at *
        generalize textL f2 = X at *
        go_wp2_with fail
        refine (unhide q1 _).mono ?_
        rintro e w1 ⟨rfl, HB1⟩
        have hb1 : Below W2.heap.size W2 w1 := by first | exact HB1 | (subst HB1; exact Below.refl _ _)
        have x2' := ((unhide N2).keep hb1).at (o := 2) (v := .string f2) rfl
        have HB := hide hb1
        clear hb1 HB1 x0 x1 x2 q1
        cases G
        · go_wp2_with fail
          go_meet
          exact ⟨_, rfl, hide (by simp), HB⟩
        · by_cases e1 : 1 ≤ f2.size
          · by_cases e2 : f2.size ≤ 200
            · have i1 : (1 : Int) ≤ (f2.size : Int) := by omega
              have i2 : (f2.size : Int) ≤ 200 := by omega
              go_wp2_with fail
              refine (unhide q2 _).mono ?_
              rintro e w2 ⟨rfl, rfl⟩
              cases X
              · go_wp2_with fail
                go_meet
                exact ⟨_, rfl, hide (by simp), HB⟩
              · by_cases e3 : ks.length = 0
                · have E3 := hide e3
                  have n3 : ((ks.length : Int) == 0) = true := beq_iff_eq.2 (by omega)
                  clear e3
                  go_wp2_with fail
                  go_meet
                  exact ⟨_, rfl, hide (by simp [e1, e2, unhide E3]), HB⟩
                · have n3 : ((ks.length : Int) == 0) = false := beq_eq_false_iff_ne.2 (fun h => e3 (by omega))
                  go_wp2_with fail
                  go_meet
                  exact ⟨_, rfl, hide (by simp [e3]), HB⟩
            · have i1 : (1 : Int) ≤ (f2.size : Int) := by omega
              have i2 : ¬ (f2.size : Int) ≤ 200 := by omega
              go_wp2_with fail
              go_meet
              exact ⟨_, rfl, hide (by simp [e2]), HB⟩
          · have i1 : ¬ (1 : Int) ≤ (f2.size : Int) := by omega
            go_wp2_with fail
            go_meet
            exact ⟨_, rfl, hide (by simp [e1]), HB⟩
      obtain ⟨b5, rfl, hb5, hbx⟩ := hcut
      have NT' := hide ((unhide NT).trans (and_congr (unhide hb5).symm Iff.rfl))
      have x2' := ((unhide N2).keep (unhide hbx)).at (o := 2) (v := .string f2) rfl
      clear NT q1 q2 x0 x1 x2 hb5
      go_wp2_with fail
      refine (unhide q3 _).mono ?_
      rintro e w3 ⟨(⟨ht, rfl⟩ | ⟨ts, v, ht, rfl, _⟩), hb3⟩
      · have HT := hide ht
        have x0' := (((unhide N2).keep (unhide hbx)).keep hb3).at (o := 0) (v := .int .i64 6) rfl
        have HB := hide (bTr (unhide hbx) hb3)
        clear ht hb3 x2' q3
        go_wp2_with fail
        go_meet
        exact ⟨_, rfl, hide (by rw [unhide NT', unhide HT]; simp), HB⟩
      · have HT := hide ht
        have x0' := (((unhide N2).keep (unhide hbx)).keep hb3).at (o := 0) (v := .int .i64 6) rfl
        have HB := hide (bTr (unhide hbx) hb3)
        clear ht hb3 x2' q3
        go_wp2_with fail
        go_meet
        exact ⟨_, rfl, hide (by rw [unhide NT', unhide HT]; simp), HB⟩
    by_cases g8 : f0 = 8
    · replace NT := hide (unhide NT (by omega))
      subst g8
      clear NA NN NH NE
      go_upto_region 16 with fail
      go_cut [5] from 10 (fun c wx => ∃ b, c = .bool b ∧ Hid (b = true ↔ (goodName f1 = true ∧ 1 ≤ f2.size ∧ f2.size ≤ 200 ∧ textL f2 = true ∧ ks.length = 0)) ∧ Hid (Below W2.heap.size W2 wx))
      case first =>
        clear q3 NT
        generalize goodName f1 = G at *
        generalize textL f2 = X at *
        go_wp2_with fail
        refine (unhide q1 _).mono ?_
        rintro e w1 ⟨rfl, HB1⟩
        have hb1 : Below W2.heap.size W2 w1 := by first | exact HB1 | (subst HB1; exact Below.refl _ _)
        have x2' := ((unhide N2).keep hb1).at (o := 2) (v := .string f2) rfl
        have HB := hide hb1
        clear hb1 HB1 x0 x1 x2 q1
        cases G
        · go_wp2_with fail
          go_meet
          exact ⟨_, rfl, hide (by simp), HB⟩
        · by_cases e1 : 1 ≤ f2.size
          · by_cases e2 : f2.size ≤ 200
            · have i1 : (1 : Int) ≤ (f2.size : Int) := by omega
              have i2 : (f2.size : Int) ≤ 200 := by omega
              go_wp2_with fail
              refine (unhide q2 _).mono ?_
              rintro e w2 ⟨rfl, rfl⟩
              cases X
              · go_wp2_with fail
                go_meet
                exact ⟨_, rfl, hide (by simp), HB⟩
              · by_cases e3 : ks.length = 0
                · have E3 := hide e3
                  have n3 : ((ks.length : Int) == 0) = true := beq_iff_eq.2 (by omega)
                  clear e3
                  go_wp2_with fail
                  go_meet
                  exact ⟨_, rfl, hide (by simp [e1, e2, unhide E3]), HB⟩
                · have n3 : ((ks.length : Int) == 0) = false := beq_eq_false_iff_ne.2 (fun h => e3 (by omega))
                  go_wp2_with fail
                  go_meet
                  exact ⟨_, rfl, hide (by simp [e3]), HB⟩
            · have i1 : (1 : Int) ≤ (f2.size : Int) := by omega
              have i2 : ¬ (f2.size : Int) ≤ 200 := by omega
              go_wp2_with fail
              go_meet
              exact ⟨_, rfl, hide (by simp [e2]), HB⟩
          · have i1 : ¬ (1 : Int) ≤ (f2.size : Int) := by omega
            go_wp2_with fail
            go_meet
            exact ⟨_, rfl, hide (by simp [e1]), HB⟩
      obtain ⟨b5, rfl, hb5, hbx⟩ := hcut
      have NT' := hide ((unhide NT).trans (and_congr (unhide hb5).symm Iff.rfl))
      have x2' := ((unhide N2).keep (unhide hbx)).at (o := 2) (v := .string f2) rfl
      clear NT q1 q2 x0 x1 x2 hb5
      go_wp2_with fail
      refine (unhide q3 _).mono ?_
      rintro e w3 ⟨(⟨ht, rfl⟩ | ⟨ts, v, ht, rfl, _⟩), hb3⟩
      · have HT := hide ht
        have x0' := (((unhide N2).keep (unhide hbx)).keep hb3).at (o := 0) (v := .int .i64 8) rfl
        have HB := hide (bTr (unhide hbx) hb3)
        clear ht hb3 x2' q3
        go_wp2_with fail
        go_meet
        exact ⟨_, rfl, hide (by rw [unhide NT', unhide HT]; simp), HB⟩
      · have HT := hide ht
        have x0' := (((unhide N2).keep (unhide hbx)).keep hb3).at (o := 0) (v := .int .i64 8) rfl
        have HB := hide (bTr (unhide hbx) hb3)
        clear ht hb3 x2' q3
        go_wp2_with fail
        go_meet
        exact ⟨_, rfl, hide (by rw [unhide NT', unhide HT]; simp), HB⟩
    have no := hide (unhide NE (by omega))
    clear NA NN NH NT NE q1 q2 q3
    go_wp2_with fail
    go_meet
    exact ⟨_, rfl, hide ⟨fun h => (by cases h), fun h => absurd h (unhide no)⟩, hide (Below.refl _ _)⟩
  case rest =>
    obtain ⟨ok, rfl, hok, hbx⟩ := hcut
    have p7 := ((unhide P2).keep (unhide hbx)).at (o := 4) (v := .slice a ks.length cap) rfl
    have bw : Hid (Below w.heap.size w wc) := hide (bTr (unhide B2) (unhide hbx))
    clear HX H6 N2 P2
    go_wp2_with fail
    clear p7
    go_loopw [5, 101] (fun o i w' => ∃ (k : Nat) (ok' : Bool), k ≤ ks.length ∧ i = .int .i64 k ∧ o = .bool ok' ∧ Hid (ok' = true ↔ (NodeP x ∧ ∀ q ∈ ks.take k, Right q)) ∧ Hid (Below wc.heap.size wc w')) (fun _ i _ => ks.length - (Go.RowKit.intOf i).toNat)
    case atStart => exact ⟨0, ok, Nat.zero_le _, rfl, rfl, hide (by rw [unhide hok]; simp), hide (Below.refl _ _)⟩
    case round =>
      obtain ⟨k, ok', hk, rfl, rfl, hok', hb'⟩ := hrel
      by_cases hlt : k < ks.length
      · rcases unhide HK with e | ⟨b, rfl, hlo, hbz, hcells⟩
        · rw [e] at hlt; simp at hlt
        obtain ⟨s', h8, htr⟩ := hcells k hlt
        have bwr := bTr (unhide bw) (unhide hb')
        have c0 := cellG bwr hbz h8.c0
        have c1 := cellG bwr hbz h8.c1
        have c2 := cellG bwr hbz h8.c2
        have c3 := cellG bwr hbz h8.c3
        have c4 := cellG bwr hbz h8.c4
        have es2 : Hid (∃ a cap n, s' = .slice a n cap) := hide (by
          cases r with
          | zero => exact htr.elim
          | succ r => obtain ⟨_, _, a, cap, e, _⟩ := htr; exact ⟨_, _, _, e⟩)
        obtain ⟨sa, sc, sn, rfl⟩ := unhide es2
        have hst := hide (fun P => take_all (P := P) hlt)
        have hal := hide (unhide HA _ (List.getElem_mem hlt))
        generalize ks[k] = K at *
        obtain ⟨Y, hY⟩ : ∃ Y, K.n = Y := ⟨_, rfl⟩
        rw [hY] at c0 c1 c2 c3
        obtain ⟨W3, hW3⟩ : ∃ W, W = wr.alloc (.cells (row8 Y (.slice sa sn sc)) 35) := ⟨_, rfl⟩
        have b3 : Below wr.heap.size wr W3 := by rw [hW3]; exact bAl (Below.refl _ _) _
        have K3 := hide (show RowIs W3 wr.heap.size (row8 Y (.slice sa sn sc)) 35 by rw [hW3]; exact RowIs.new _ _ _)
        have HB3 := hide (bTr (unhide hb') b3)
        have q := hide (unhide IH W3 lo (.slice sa sn sc) K (htr.keptY ((KeptY.refl lo w).below (bTr bwr b3) (Nat.le_refl _))) (unhide hal))
        rw [hY] at q
        have HW3 := hide hW3.symm
        clear h8 htr hcells bwr hbz hlo hY hW3 b3 es2 hal IH HK
        go_upto_region 23 with fail
        rw [unhide HW3]
        have hnx : Hid ((NodeP x ∧ ∀ q ∈ ks.take (k + 1), Right q) ↔ ((NodeP x ∧ ∀ q ∈ ks.take k, Right q) ∧ Right K)) := hide (by
          rw [unhide hst (fun q => Right q), and_assoc])
        clear c0 c1 c2 c3 c4 HW3 hst
        have k0 := (unhide K3).at (o := 0) (v := .int .i64 Y.f0) rfl
        have k1 := (unhide K3).at (o := 1) (v := .string Y.f1) rfl
        have k2 := (unhide K3).at (o := 2) (v := .string Y.f2) rfl
        have k3 := (unhide K3).at (o := 3) (v := .int .i64 Y.f3) rfl
        have k4 := (unhide K3).at (o := 4) (v := .slice sa sn sc) rfl
        cases ok' with
        | false =>
          have no : Hid (false = true ↔ (NodeP x ∧ ∀ q ∈ ks.take (k + 1), Right q)) := hide (by
            rw [unhide hnx]
            exact ⟨fun h => (by cases h), fun h => (unhide hok').2 h.1⟩)
          clear hok' hnx q
          go_wp2_with fail
          exact ⟨⟨k + 1, false, by omega, by go_num, rfl, no, HB3⟩, by simp [Go.RowKit.intOf]; omega⟩
        | true =>
          have hyes := hide ((unhide hok').1 rfl)
          clear hok'
          go_wp2_with fail
          refine (unhide q).mono ?_
          rintro e w4 ⟨⟨b4, rfl, h4⟩, hb4⟩
          have HB4 := hide (bTr (unhide HB3) hb4)
          have fin : Hid (b4 = true ↔ (NodeP x ∧ ∀ q ∈ ks.take (k + 1), Right q)) := hide (by
            rw [unhide hnx, h4]
            exact ⟨fun h => ⟨unhide hyes, h⟩, fun h => h.2⟩)
          clear q k0 k1 k2 k3 k4 h4 hb4 hnx hyes
          go_wp2_with fail
          exact ⟨⟨k + 1, b4, by omega, by go_num, rfl, fin, HB4⟩, by simp [Go.RowKit.intOf]; omega⟩
      · have hd : Hid (ok' = true ↔ Right (.node x ks)) := hide (by
          have := unhide hok'
          rw [List.take_of_length_le (by omega)] at this
          rw [this, right_iff])
        clear hok'
        go_wp2_with fail
        go_ret
        exact ⟨retB (unhide hd), bTr (unhide bw) (unhide hb')⟩

theorem l3Right_any : ∀ (r : Nat) (w : World) (lo : Nat) (s : Value) (t : FT), TrAt r w lo s t → AllY OkX t → Calls Try.prog 17 #[agg8 t.n s] w fun e w' => RetB e (Right t) ∧ Below w.heap.size w w'
  | 0, _, _, _, _, h, _ => h.elim
  | r + 1, w, lo, s, .node x ks, ⟨h1, h2, a, cap, h3, h4⟩, ha => by
    subst h3
    exact l3Right_step r (l3Right_any r) w lo x ks a cap h1 h2 ha.out.1 h4 ha.out.2
end Go.Proofs.Ytlkpeolecfemnaa.V
