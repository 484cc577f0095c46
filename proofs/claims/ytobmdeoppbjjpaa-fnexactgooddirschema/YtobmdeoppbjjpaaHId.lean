/- impl.dirIndex: goodClass, goodClasses, goodTypes. -/
import Derived.Test.YtobmdeoppbjjpaaHIc
import Derived.BigQuiet
namespace Go.Proofs.Ytobmdeoppbjjpaa.V
set_option linter.unusedSimpArgs false
set_option linter.unusedVariables false
open Go.RowKit Go.Maps

def GN (ts : List AttrTypeE) (l : List ByteArray) : Prop := l.length ≤ 30 ∧ (∀ s ∈ l, s ∈ (ts.map (·.t)).map (·.f0)) ∧ RisS l
set_option maxRecDepth 20000 in
set_option maxHeartbeats 2000000 in
theorem goodClass_n (b1 b2 : Nat) (ts : List AttrTypeE) (cs : List ClassE) (M : ByteArray → Option Value) (C : ByteArray → Option ClassE) (D : DataW Value) (e : ClassE) (w : World) (hcs : cs.length ≤ 1000) (hcn : ∀ e ∈ cs, ClassN e.t) (ho : w.ownsMap Try.prog 9 hvR b2 cs.length D) (hD : KD Try.prog 9 Value.string D M) (hC : KC (·.t.f0) clV cs M C) (hk : KTy w b1 ts) (hn : ClassN e.t) (hm : ClassM w 0 e) :
    Calls Try.prog 34 #[.agg #[.map (some b1), .map (some b2)], .agg #[.string e.t.f0, .string e.t.f1, .slice e.h2.a e.h2.len e.h2.cap, .slice e.h3.a e.h3.len e.h3.cap]] w fun r w' => RetB r (EndsF (fun s => (C s).map (·.t)) (Maps.size D) e.t.f0 ∧ goodName e.t.f0 = true ∧ GN ts e.t.f2 ∧ GN ts e.t.f3) ∧ Below w.heap.size w w' := by
  have q1 := hide (fun (w' : World) (hb : Below w.heap.size w w') => lineage_n b1 b2 cs M C D e.t.f0 w' hn.o0 hcs hcn (ownsMapB ho hb) hD hC)
  have q2 := hide (fun (w' : World) => iGoodName_any e.t.f0 hn.o0 w')
  have q3 := hide (fun (w' : World) (hb : Below w.heap.size w w') => goodTypeNames_n b1 b2 ts e.h2 e.t.f2 w' hn.l2 hn.o2 (hk.keep hb) (hm.m2.keep hb))
  have q4 := hide (fun (w' : World) (hb : Below w.heap.size w w') => goodTypeNames_n b1 b2 ts e.h3 e.t.f3 w' hn.l3 hn.o3 (hk.keep hb) (hm.m3.keep hb))
  have P := hide ((RowIs.new w #[.map (some b1), .map (some b2)] 55).keep (bAl (Below.refl _ _) (.cells #[.string e.t.f0, .string e.t.f1, .slice e.h2.a e.h2.len e.h2.cap, .slice e.h3.a e.h3.len e.h3.cap] 45)))
  have R : Hid (RowIs ((w.alloc (.cells #[.map (some b1), .map (some b2)] 55)).alloc (.cells #[.string e.t.f0, .string e.t.f1, .slice e.h2.a e.h2.len e.h2.cap, .slice e.h3.a e.h3.len e.h3.cap] 45)) (w.heap.size + 1) #[.string e.t.f0, .string e.t.f1, .slice e.h2.a e.h2.len e.h2.cap, .slice e.h3.a e.h3.len e.h3.cap] 45) := hide (by have := RowIs.new (w.alloc (.cells #[.map (some b1), .map (some b2)] 55)) #[.string e.t.f0, .string e.t.f1, .slice e.h2.a e.h2.len e.h2.cap, .slice e.h3.a e.h3.len e.h3.cap] 45; simpa using this)
  have B := hide (bAl (bAl (Below.refl w.heap.size w) (.cells #[.map (some b1), .map (some b2)] 55)) (.cells #[.string e.t.f0, .string e.t.f1, .slice e.h2.a e.h2.len e.h2.cap, .slice e.h3.a e.h3.len e.h3.cap] 45))
  have D0 : Hid ((EndsF (fun s => (C s).map (·.t)) (Maps.size D) e.t.f0 ∧ goodName e.t.f0 = true ∧ GN ts e.t.f2 ∧ GN ts e.t.f3) ↔ (EndsF (fun s => (C s).map (·.t)) (Maps.size D) e.t.f0 ∧ goodName e.t.f0 = true ∧ GN ts e.t.f2 ∧ GN ts e.t.f3)) := hide Iff.rfl
  generalize hG : (EndsF (fun s => (C s).map (·.t)) (Maps.size D) e.t.f0 ∧ goodName e.t.f0 = true ∧ GN ts e.t.f2 ∧ GN ts e.t.f3) = G
  replace D0 : Hid (G ↔ (EndsF (fun s => (C s).map (·.t)) (Maps.size D) e.t.f0 ∧ goodName e.t.f0 = true ∧ GN ts e.t.f2 ∧ GN ts e.t.f3)) := hide (by rw [← hG])
  clear hG
  generalize EndsF (fun s => (C s).map (·.t)) (Maps.size D) e.t.f0 = P1 at D0 q1
  have e3 : GN ts e.t.f2 = (e.t.f2.length ≤ 30 ∧ (∀ s ∈ e.t.f2, s ∈ (ts.map (·.t)).map (·.f0)) ∧ RisS e.t.f2) := rfl
  have e4 : GN ts e.t.f3 = (e.t.f3.length ≤ 30 ∧ (∀ s ∈ e.t.f3, s ∈ (ts.map (·.t)).map (·.f0)) ∧ RisS e.t.f3) := rfl
  rw [← e3] at q3
  rw [← e4] at q4
  clear e3 e4
  generalize GN ts e.t.f2 = P3 at D0 q3
  generalize GN ts e.t.f3 = P4 at D0 q4
  clear hn hm hk ho hD hC hcn hcs
  go_enter Try.func34, Try.ntmps34
  go_wp2_with fail
  refine (unhide q1 _ (unhide B)).mono ?_
  rintro r w1 ⟨⟨u1, v1, rfl, hv⟩, hb⟩
  replace R := hide ((unhide R).keep hb)
  replace P := hide ((unhide P).keep hb)
  replace B := hide (bTr (unhide B) hb)
  have H1 := hide hv
  clear hb hv q1
  cases v1
  case false =>
    have no : Hid (¬ G) := hide (fun g => by have := (unhide H1).2 ((unhide D0).1 g).1; cases this)
    clear D0 H1
    go_wp2_with fail
    go_ret
    exact ⟨retB (b := false) ⟨fun h => (by cases h), fun h => absurd h (unhide no)⟩, unhide B⟩
  replace H1 := hide ((unhide H1).1 rfl)
  have c0 := (unhide R).at (o := 0) (v := .string e.t.f0) rfl
  go_wp2_with fail
  refine (unhide q2 _).mono ?_
  rintro r w2 ⟨rfl, hb⟩
  replace R := hide ((unhide R).keep hb)
  replace P := hide ((unhide P).keep hb)
  replace B := hide (bTr (unhide B) hb)
  clear hb q2 c0
  generalize goodName e.t.f0 = g0 at D0 ⊢
  cases g0
  case false =>
    have no : Hid (¬ G) := hide (fun g => by have := ((unhide D0).1 g).2.1; cases this)
    clear D0 H1
    go_wp2_with fail
    go_ret
    exact ⟨retB (b := false) ⟨fun h => (by cases h), fun h => absurd h (unhide no)⟩, unhide B⟩
  have c2 := (unhide R).at (o := 2) (v := .slice e.h2.a e.h2.len e.h2.cap) rfl
  have p0 := (unhide P).at (o := 0) (v := .map (some b1)) rfl
  have p1 := (unhide P).at (o := 1) (v := .map (some b2)) rfl
  go_wp2_with fail
  refine (unhide q3 _ (unhide B)).mono ?_
  rintro r w3 ⟨⟨v3, rfl, hv⟩, hb⟩
  replace R := hide ((unhide R).keep hb)
  replace P := hide ((unhide P).keep hb)
  replace B := hide (bTr (unhide B) hb)
  have H3 := hide hv
  clear hb hv q3 c2 p0 p1
  cases v3
  case false =>
    have no : Hid (¬ G) := hide (fun g => by have := (unhide H3).2 ((unhide D0).1 g).2.2.1; cases this)
    clear D0 H1 H3
    go_wp2_with fail
    go_ret
    exact ⟨retB (b := false) ⟨fun h => (by cases h), fun h => absurd h (unhide no)⟩, unhide B⟩
  replace H3 := hide ((unhide H3).1 rfl)
  have c3 := (unhide R).at (o := 3) (v := .slice e.h3.a e.h3.len e.h3.cap) rfl
  have p0 := (unhide P).at (o := 0) (v := .map (some b1)) rfl
  have p1 := (unhide P).at (o := 1) (v := .map (some b2)) rfl
  go_wp2_with fail
  refine (unhide q4 _ (unhide B)).mono ?_
  rintro r w4 ⟨⟨v4, rfl, hv⟩, hb⟩
  replace B := hide (bTr (unhide B) hb)
  have H4 := hide hv
  clear hb hv q4 c3 p0 p1
  go_wp2_with fail
  go_ret
  exact ⟨retB (b := v4) ((unhide H4).trans ⟨fun h => (unhide D0).2 ⟨unhide H1, (by first | rfl | trivial), unhide H3, h⟩, fun h => ((unhide D0).1 h).2.2.2⟩), unhide B⟩
set_option maxRecDepth 20000 in
set_option maxHeartbeats 2000000 in
theorem goodClasses_n (b1 b2 : Nat) (PX : ClassE → Prop) (h : Hd) (l : List ClassE) (w : World) (hl : l.length ≤ maxLen) (hs : SqClassE w 0 h l)
    (hq : ∀ x ∈ l, ∀ w' : World, Below w.heap.size w w' → Calls Try.prog 34 #[.agg #[.map (some b1), .map (some b2)], .agg #[.string x.t.f0, .string x.t.f1, .slice x.h2.a x.h2.len x.h2.cap, .slice x.h3.a x.h3.len x.h3.cap]] w' fun e w'' => RetB e (PX x) ∧ Below w'.heap.size w' w'') :
    Calls Try.prog 20 #[.agg #[.map (some b1), .map (some b2)], .slice h.a h.len h.cap] w fun r w' => RetB r ((∀ x ∈ l, PX x) ∧ ∀ i (h : i + 1 < l.length), cmpT l[i].t.f0.data.toList l[i + 1].t.f0.data.toList < 0) ∧ Below w.heap.size w w' := by
  have q1 := hide hq
  have q2 := hide (fun (w' : World) (hb : Below w.heap.size w w') => rising_cl (fun x y => cmpT x.t.f0.data.toList y.t.f0.data.toList) h l w' hl (hs.keep hb) (fun x _ y _ w'' _ => clBy_any x y w''))
  have B := hide (bAl (Below.refl w.heap.size w) (.cells #[.map (some b1), .map (some b2)] 55))
  have R := hide (RowIs.new w #[.map (some b1), .map (some b2)] 55)
  generalize hG : ((∀ x ∈ l, PX x) ∧ ∀ i (h : i + 1 < l.length), cmpT l[i].t.f0.data.toList l[i + 1].t.f0.data.toList < 0) = G
  have D0 : Hid (G ↔ ((∀ x ∈ l, PX x) ∧ ∀ i (h : i + 1 < l.length), cmpT l[i].t.f0.data.toList l[i + 1].t.f0.data.toList < 0)) := hide (by rw [← hG])
  have HS := hide hs
  have HL := hide hs.1
  have LM : h.len ≤ maxLen := by rw [hs.1]; exact hl
  unfold maxLen at LM
  obtain ⟨a, len, cap⟩ := h
  simp only at HL LM q2
  clear hl hs hG hq
  go_enter Try.func20, Try.ntmps20
  go_wp2_with fail
  go_loopw [9] (fun i w' => ∃ k : Nat, k ≤ len ∧ i = .int .i64 k ∧ Hid (Below w.heap.size w w') ∧ Hid (RowIs w' w.heap.size #[.map (some b1), .map (some b2)] 55) ∧ Hid (∀ i (h : i < l.length), i < k → PX l[i])) (fun i _ => len - (intOf i).toNat)
  case atStart => exact ⟨0, Nat.zero_le _, rfl, B, R, hide (fun i _ h => absurd h (Nat.not_lt_zero _))⟩
  case round =>
    clear B R
    obtain ⟨k, hk, rfl, B, R, hA⟩ := hrel
    by_cases hlt : k < len
    case neg =>
      have ALL : Hid (∀ x ∈ l, PX x) := hide (fun x hx => by
        obtain ⟨i, hi, rfl⟩ := List.getElem_of_mem hx
        exact unhide hA i hi (by have := unhide HL; omega))
      clear hA q1
      go_wp2_with fail
      refine (unhide q2 _ (unhide B)).mono ?_
      rintro r w1 ⟨⟨v, rfl, hv⟩, hb⟩
      have HV := hide hv
      replace B := hide (bTr (unhide B) hb)
      clear hb hv q2
      go_wp2_with fail
      go_ret
      exact ⟨retB (b := v) ((unhide HV).trans ⟨fun h => (unhide D0).2 ⟨unhide ALL, h⟩, fun h => ((unhide D0).1 h).2⟩), unhide B⟩
    have hk' : k < l.length := by have := unhide HL; omega
    obtain ⟨b1', off1, e1, row1⟩ := ((unhide HS).keep (unhide B)).at hlt
    simp only at e1
    subst e1
    have c0 := row1.c0 k hk'
    have c1 := row1.c1 k hk'
    have c2 := row1.c2 k hk'
    have c3 := row1.c3 k hk'
    have r0 := (unhide R).at (o := 0) (v := .map (some b1)) rfl
    have r1 := (unhide R).at (o := 1) (v := .map (some b2)) rfl
    have zl := (unhide R).lt
    have bA : Below wr.heap.size wr (wr.alloc (.cells #[.string l[k].t.f0, .string l[k].t.f1, .slice l[k].h2.a l[k].h2.len l[k].h2.cap, .slice l[k].h3.a l[k].h3.len l[k].h3.cap] 45)) := bAl (Below.refl _ _) _
    have BN := hide (bTr (unhide B) bA)
    have RN := hide ((unhide R).keep bA)
    have q3 := hide (unhide q1 l[k] (List.getElem_mem hk'))
    have NOP : Hid (¬ PX l[k] → ¬ G) := hide (fun g h => g (((unhide D0).1 h).1 _ (List.getElem_mem hk')))
    have STP : Hid (PX l[k] → ∀ i (h : i < l.length), i < k + 1 → PX l[i]) := hide (fun g i hi h1 => by
      rcases Nat.lt_or_ge i k with h2 | h2
      · exact unhide hA i hi h2
      · obtain rfl : i = k := by omega
        exact g)
    clear row1 hA bA q1 q2 D0 B R
    generalize PX l[k] = PP at NOP STP q3
    generalize l[k] = A at *
    go_wp2_with fail
    refine (unhide q3 _ (unhide BN)).mono ?_
    rintro r w1 ⟨⟨v, rfl, hv⟩, hb⟩
    have HV := hide hv
    replace RN := hide ((unhide RN).keep hb)
    replace BN := hide (bTr (unhide BN) hb)
    clear hb hv q3 r0 r1 c0 c1 c2 c3
    cases v
    · have no := hide (unhide NOP (fun h => by have := (unhide HV).2 h; cases this))
      clear NOP STP HV
      go_wp2_with fail
      go_ret
      exact ⟨retB (b := false) ⟨fun h => (by cases h), fun h => absurd h (unhide no)⟩, unhide BN⟩
    · have S := hide (unhide STP ((unhide HV).1 rfl))
      clear NOP STP HV
      go_wp2_with fail
      exact ⟨⟨k + 1, by omega, by go_num, BN, RN, S⟩, by simp [intOf]; omega⟩
end Go.Proofs.Ytobmdeoppbjjpaa.V
