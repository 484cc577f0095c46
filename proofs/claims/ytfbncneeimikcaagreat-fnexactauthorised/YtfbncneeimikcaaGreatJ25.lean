/- OIe, TId, one behind the other. -/
import Derived.Test.YtfbncneeimikcaaGreatJ24
import Derived.Carry
import Derived.Deep.RegionWith
import Derived.Deep.RegionHeld3
import Derived.Laws.Tables
import Derived.Test.YtfbncneeimikcaaGreatJ3
/- impl.roleIndexOf. -/
namespace Go.Proofs.YtfbncneeimikcaaGreat.V
set_option linter.unusedSimpArgs false
set_option linter.unusedVariables false
open Go.RowKit Go.Maps

theorem callsT5 {P : Program} {f : FuncId} {args : Array Value} {w : World} {p : Prop} (h : Calls P f args w fun e w' => RetB e p ∧ Below w.heap.size w w') (hp : p) : Calls P f args w fun e w' => e = .returned (.bool true) ∧ Below w.heap.size w w' := h.mono fun _ _ ⟨⟨b, e, hb⟩, k⟩ => ⟨by rw [e, hb.2 hp], k⟩
theorem callsF5 {P : Program} {f : FuncId} {args : Array Value} {w : World} {p : Prop} (h : Calls P f args w fun e w' => RetB e p ∧ Below w.heap.size w w') (hp : ¬ p) : Calls P f args w fun e w' => e = .returned (.bool false) ∧ Below w.heap.size w w' := h.mono fun _ _ ⟨⟨b, e, hb⟩, k⟩ => ⟨by
  cases b
  · exact e
  · exact absurd (hb.1 rfl) hp, k⟩
theorem takeD {P : Program} {ops : Array Oper} {Q : Exit → Act → World → Prop} {md : Region.Mode} {S : World → Prop} {i : Nat} {oi : Oper} {v : Value} {d : Option Tmp} {fuel : Nat} {listed : Array Bool} {a : Act} {w : World} (hi : ops[i]? = some oi) (hd : oi.dst = d)
    (hs : Region.noSelect ops = true) (hf : Region.free md ops listed i = true) (hr : (Region.ready md ops listed).contains i = true)
    (hQ : ∀ c a w, Q (.panic c) (a.put oi.dst v) w → Q (.panic c) a w) (hy : YieldsIf P ops S oi v a) (hS : S w)
    (h : wpAnyH P md ops Q S fuel (listed.setIfInBounds i true) (a.put d v) w) : wpAnyH P md ops Q S (fuel + 1) listed a w := by
  subst hd
  exact wpAnyH_take hi hs hf hr hQ hy hS h
theorem results_two5 {P : Program} {fn : Func} {p q : Tmp} {ty : TypeId} (h : fn.results = #[.cell p ty, .tmp q]) (tmps : Array Value) (w : World) (g : Nat) (t : TypeId) (cs : Array Value) (fr : Nat × Nat) (d : TypeDesc) (v : Value)
    (hp : tmps.getD p undef = .pointer (some ⟨g, 0, none⟩)) (hq : tmps.getD q undef = v) (hg : w.heap[g]? = some (.cells cs t fr))
    (hu : P.underlying ty = some d) (hd : (match d with | .struct _ | .array _ _ => true | _ => false) = true) (hi : (P.info? ty).map (·.size) = some cs.size) :
    (results fn tmps).run P w = .ok (.tuple #[.agg cs, v]) w := by
  have hp' : tmps[p]?.getD undef = .pointer (some ⟨g, 0, none⟩) := by simpa using hp
  have hq' : tmps[q]?.getD undef = v := by simpa using hq
  simp [results, h, hp', hq', asAddr, run_loadVar_row w g t ty cs fr d hg hu hd hi]
/-- What roleIndexOf answers. -/
def RxIs (w w' : World) (ts : List RoleT) (h0 : Hd) (G : Prop) (r : Ending) : Prop := ∃ (b1 b2 : Nat) (hp hg : Hd) (ok : Bool) (rs : List RoleE), r = .returned (.tuple #[.agg #[.map (some b1), .map (some b2), .slice hp.a hp.len hp.cap, .slice hg.a hg.len hg.cap], .bool ok]) ∧ (ok = true ↔ G) ∧ rs.map (·.t) = ts ∧ SqRoleE w 0 h0 rs ∧ w.heap.size ≤ b1 ∧ (ok = true → ∃ tab, JM w' b1 rs rs.length tab)
theorem JM.rowS {w : World} {b1 : Nat} {rs : List RoleE} {k : Nat} {tab : ByteArray → Option Nat} {g : Nat} {cs : Array Value} (h : JM w b1 rs k tab) (hg : g < b1) : JM (w.setRow g cs) b1 rs k tab :=
  h.rowK (row := some g) ⟨rfl, rfl, rfl, by simp, fun j hj hj2 => by rw [setRow_other _ _ _ _ (fun e => hj2 (congrArg some e))]⟩ (fun r hr => by cases hr; exact .inl hg)
/-- What the walk keeps: the set's box, the result's, the index's. -/
structure RIW (w w' : World) (h0 h1 h2 : Hd) : Prop where
  b : Below w.heap.size w w'
  s : RowIs w' (w.heap.size) #[.slice h0.a h0.len h0.cap, .slice h1.a h1.len h1.cap, .slice h2.a h2.len h2.cap] 38
  o : RowIs w' (w.heap.size + 1) #[.map none, .map none, .slice none 0 0, .slice none 0 0] 68
  x : RowIs w' (w.heap.size + 1 + 1 + 1 + 1) #[.map (some (w.heap.size + 1 + 1)), .map (some (w.heap.size + 1 + 1 + 1)), .slice h1.a h1.len h1.cap, .slice h2.a h2.len h2.cap] 68
theorem RIW.keep {w w' w'' : World} {h0 h1 h2 : Hd} (p : RIW w w' h0 h1 h2) (hb : Below w'.heap.size w' w'') : RIW w w'' h0 h1 h2 := ⟨bTr p.b hb, p.s.keep hb, p.o.keep hb, p.x.keep hb⟩
theorem RIW.grown {w w' w'' : World} {h0 h1 h2 : Hd} {m : Nat} (p : RIW w w' h0 h1 h2) (hg : w'.grownBy w'' (some m)) (hm : m = w.heap.size + 1 + 1 ∨ m = w.heap.size + 1 + 1 + 1) : RIW w w'' h0 h1 h2 :=
  ⟨p.b.grown hg p.b.size (fun j h => by cases h; omega), rowG p.s hg (by omega), rowG p.o hg (by omega), rowG p.x hg (by omega)⟩
/-- A map with the names of the first k, to each a map. -/
def KP (w : World) (b k : Nat) (l : List RoleE) : Prop := ∃ M, KStr w b k M ∧ (∀ s, (M s).isSome = true ↔ ∃ i, ∃ h : i < l.length, i < k ∧ l[i].t.f0 = s) ∧ ∀ s v, M s = some v → ∃ b', v = .map (some b')
theorem KP.keep {w w' : World} {b k : Nat} {l : List RoleE} (h : KP w b k l) (hb : Below w.heap.size w w') : KP w' b k l := by obtain ⟨M, h1, h2⟩ := h; exact ⟨M, h1.keepB hb h1.lt, h2⟩
theorem kp_step {M : ByteArray → Option Value} {l : List RoleE} {k : Nat} (bs : Nat) (hk : k < l.length) (h : (∀ s, (M s).isSome = true ↔ ∃ i, ∃ h : i < l.length, i < k ∧ l[i].t.f0 = s) ∧ ∀ s v, M s = some v → ∃ b', v = .map (some b')) :
    (∀ s, (updK M l[k].t.f0 (.map (some bs)) s).isSome = true ↔ ∃ i, ∃ h : i < l.length, i < k + 1 ∧ l[i].t.f0 = s) ∧ ∀ s v, updK M l[k].t.f0 (.map (some bs)) s = some v → ∃ b', v = .map (some b') := by
  constructor
  · intro s
    unfold updK
    by_cases e : s = l[k].t.f0
    · rw [if_pos e]
      exact ⟨fun _ => ⟨k, hk, by omega, e.symm⟩, fun _ => rfl⟩
    · rw [if_neg e, h.1 s]
      constructor
      · rintro ⟨i, hi, h1, h2⟩; exact ⟨i, hi, by omega, h2⟩
      · rintro ⟨i, hi, h1, h2⟩
        refine ⟨i, hi, ?_, h2⟩
        rcases Nat.lt_or_ge i k with h3 | h3
        · exact h3
        · obtain rfl : i = k := by omega
          exact absurd h2.symm e
  · intro s v hv
    unfold updK at hv
    split at hv
    · cases hv; exact ⟨bs, rfl⟩
    · exact h.2 s v hv
theorem KP.all {w : World} {b : Nat} {l : List RoleE} (h : KP w b l.length l) : KT w b (nms (l.map (·.t))) := by
  obtain ⟨M, h1, h2, h3⟩ := h
  refine ⟨_, M, h1, fun s => (h2 s).trans ⟨?_, ?_⟩, h3⟩
  · rintro ⟨i, hi, _, rfl⟩
    exact List.mem_map_of_mem (List.mem_map_of_mem (List.getElem_mem hi))
  · intro hs
    obtain ⟨t, ht, rfl⟩ := List.mem_map.1 hs
    obtain ⟨e, he, rfl⟩ := List.mem_map.1 ht
    obtain ⟨i, hi, rfl⟩ := List.getElem_of_mem he
    exact ⟨i, hi, hi, rfl⟩
theorem grs_iff (l : List RoleE) (pl : List ApartE) (gs : List ByteArray) : GRs ⟨l.map (·.t), pl.map (·.t), gs⟩ ↔ (((l.length : Int) ≤ 30 ∧ ∀ x ∈ l, GRo x.t) ∧ (∀ i (h : i + 1 < l.length), cmpT l[i].t.f0.data.toList l[i + 1].t.f0.data.toList < 0) ∧ (∀ e ∈ l, AllR (nms (l.map (·.t))) e.t.f1) ∧ GEnd (l.map (·.t)) ∧ ((pl.length : Int) ≤ 10 ∧ ∀ p ∈ pl, GAp (nms (l.map (·.t))) p.t) ∧ AllR (nms (l.map (·.t))) gs) := by
  unfold GRs GIn GUn GPa RisT
  simp only [List.length_map, List.forall_mem_map]
  constructor
  · rintro ⟨⟨⟨h1, h2⟩, h3⟩, h4, h5, ⟨h6, h7⟩, h8⟩
    exact ⟨⟨by omega, h2⟩, fun i hi => by have := h3 i (by simpa [nms] using hi); simpa [nms] using this, h4, h5, ⟨by omega, h7⟩, h8⟩
  · rintro ⟨⟨h1, h2⟩, h3, h4, h5, ⟨h6, h7⟩, h8⟩
    exact ⟨⟨⟨by omega, h2⟩, fun i hi => by have := h3 i (by simpa [nms] using hi); simpa [nms] using this⟩, h4, h5, ⟨by omega, h7⟩, h8⟩
/-- Of good roles: they are few, and so is what stands under them. -/
theorem few_of (l : List RoleE) (h : (l.length : Int) ≤ 30) (h2 : ∀ i (h : i + 1 < l.length), cmpT l[i].t.f0.data.toList l[i + 1].t.f0.data.toList < 0) (h3 : ∀ e ∈ l, AllR (nms (l.map (·.t))) e.t.f1) : l.length ≤ 30 ∧ (∀ e ∈ l, e.t.f1.length ≤ 30) ∧ (nms (l.map (·.t))).Nodup := by
  have hr : RisT (nms (l.map (·.t))) := fun i hi => by
    have := h2 i (by simpa [nms] using hi)
    simpa [nms] using this
  refine ⟨by omega, fun e he => ?_, hr.nodup⟩
  have := nodup_le _ _ (h3 e he).2.nodup (h3 e he).1
  simp [nms] at this
  omega
set_option maxRecDepth 40000 in
set_option maxHeartbeats 8000000 in
theorem roleIndexOf_n (e : RoleSetE) (w : World) (hn : RoleSetN e.t) (hm : RoleSetM w 0 e) :
    Calls Tryz.prog 62 #[.agg #[.slice e.h0.a e.h0.len e.h0.cap, .slice e.h1.a e.h1.len e.h1.cap, .slice e.h2.a e.h2.len e.h2.cap]] w fun r w' => RxIs w w' e.t.f0 e.h0 (GRs e.t) r ∧ Below w.heap.size w w' := by
  obtain ⟨⟨xs, ps, gs⟩, h0, h1, h2⟩ := e
  obtain ⟨st, sa, sg, _⟩ := hm
  obtain ⟨ot, lt', oa, la', og, lg, _⟩ := hn
  simp only at st sa sg ot lt' oa la' og lg ⊢
  obtain ⟨l, rfl, st⟩ := st
  obtain ⟨pl, rfl, sa⟩ := sa
  have HTN : Hid (∀ e ∈ l, RoleN e.t) := hide (fun e he => ot _ (List.mem_map_of_mem he))
  have HAN : Hid (∀ e ∈ pl, ApartN e.t) := hide (fun e he => oa _ (List.mem_map_of_mem he))
  have LTM := hide (show l.length ≤ maxLen by simpa using lt')
  have LAM := hide (show pl.length ≤ maxLen by simpa using la')
  have HTL := hide st.1
  have HAL := hide sa.1
  have HT := hide st
  have HA := hide sa
  have HG := hide sg
  have OG := hide og
  have LG := hide lg
  have D := hide (grs_iff l pl gs)
  have FEW := hide (few_of l)
  generalize GRs ⟨l.map (·.t), pl.map (·.t), gs⟩ = G at D ⊢
  obtain ⟨ns, hns⟩ : ∃ ns, ns = nms (l.map (·.t)) := ⟨_, rfl⟩
  rw [← hns] at D FEW
  have NS := hide hns.symm
  clear st sa sg ot lt' oa la' og lg hns
  obtain ⟨W0, hW0⟩ : ∃ W, W = ((((w.alloc (.cells #[.slice h0.a h0.len h0.cap, .slice h1.a h1.len h1.cap, .slice h2.a h2.len h2.cap] 38)).alloc (.cells #[.map none, .map none, .slice none 0 0, .slice none 0 0] 68)).alloc (.map #[] 0)).alloc (.map #[] 0)).alloc (.cells #[.map (some (w.heap.size + 1 + 1)), .map (some (w.heap.size + 1 + 1 + 1)), .slice h1.a h1.len h1.cap, .slice h2.a h2.len h2.cap] 68) := ⟨_, rfl⟩
  have P0 : Hid (RIW w W0 h0 h1 h2) := hide (by
    rw [hW0]
    refine ⟨bAl (bAl (bAl (bAl (bAl (Below.refl _ _) _) _) _) _) _, ?_, ?_, ?_⟩
    · exact (((((RowIs.new w _ _).keep (bAl (Below.refl _ _) _)).keep (bAl (Below.refl _ _) _)).keep (bAl (Below.refl _ _) _)).keep (bAl (Below.refl _ _) _))
    · have := (((RowIs.new (w.alloc (.cells #[.slice h0.a h0.len h0.cap, .slice h1.a h1.len h1.cap, .slice h2.a h2.len h2.cap] 38)) #[.map none, .map none, .slice none 0 0, .slice none 0 0] 68).keep (bAl (Below.refl _ _) (.map #[] 0))).keep (bAl (Below.refl _ _) (.map #[] 0))).keep (bAl (Below.refl _ _) (.cells #[.map (some (w.heap.size + 1 + 1)), .map (some (w.heap.size + 1 + 1 + 1)), .slice h1.a h1.len h1.cap, .slice h2.a h2.len h2.cap] 68))
      simpa using this
    · have := RowIs.new ((((w.alloc (.cells #[.slice h0.a h0.len h0.cap, .slice h1.a h1.len h1.cap, .slice h2.a h2.len h2.cap] 38)).alloc (.cells #[.map none, .map none, .slice none 0 0, .slice none 0 0] 68)).alloc (.map #[] 0)).alloc (.map #[] 0)) #[.map (some (w.heap.size + 1 + 1)), .map (some (w.heap.size + 1 + 1 + 1)), .slice h1.a h1.len h1.cap, .slice h2.a h2.len h2.cap] 68
      simpa using this)
  have K0 : Hid (KStr W0 (w.heap.size + 1 + 1) 0 (fun _ => none) ∧ KP W0 (w.heap.size + 1 + 1 + 1) 0 l) := hide (by
    rw [hW0]
    constructor
    · have k := KM.made Tryz.prog 9 Value.string ((w.alloc (.cells #[.slice h0.a h0.len h0.cap, .slice h1.a h1.len h1.cap, .slice h2.a h2.len h2.cap] 38)).alloc (.cells #[.map none, .map none, .slice none 0 0, .slice none 0 0] 68))
      have k2 := (k.keepB (bAl (Below.refl _ _) (.map #[] 0)) k.lt)
      have k3 := (k2.keepB (bAl (Below.refl _ _) (.cells #[.map (some (w.heap.size + 1 + 1)), .map (some (w.heap.size + 1 + 1 + 1)), .slice h1.a h1.len h1.cap, .slice h2.a h2.len h2.cap] 68)) k2.lt)
      simp only [World.size_alloc] at k3
      exact k3
    · have k := KM.made Tryz.prog 9 Value.string (((w.alloc (.cells #[.slice h0.a h0.len h0.cap, .slice h1.a h1.len h1.cap, .slice h2.a h2.len h2.cap] 38)).alloc (.cells #[.map none, .map none, .slice none 0 0, .slice none 0 0] 68)).alloc (.map #[] 0))
      have k3 := (k.keepB (bAl (Below.refl _ _) (.cells #[.map (some (w.heap.size + 1 + 1)), .map (some (w.heap.size + 1 + 1 + 1)), .slice h1.a h1.len h1.cap, .slice h2.a h2.len h2.cap] 68)) k.lt)
      simp only [World.size_alloc] at k3
      exact ⟨_, k3, fun s => ⟨fun h => (by cases h), fun ⟨i, _, h, _⟩ => absurd h (Nat.not_lt_zero _)⟩, fun s v h => (by cases h)⟩)
  have HW := hide hW0.symm
  have q1 := hide (fun (w' : World) (hb : Below w.heap.size w w') => goodList_gro (fun x => GRo x.t) 30 h0 l w' (unhide LTM) ((unhide HT).keep hb) (fun x hx w'' hb2 => goodRole_n x w'' (unhide HTN x hx) (((unhide HT).2.2 x hx).keep (bTr hb hb2))))
  have q2 := hide (fun (w' : World) (hb : Below w.heap.size w w') => byName_ro h0 l w' (unhide LTM) ((unhide HT).keep hb))
  have hmm := @run_makeMap Tryz.prog
  have hst := @run_store Tryz.prog
  clear hW0
  generalize hC1 : ((l.length : Int) ≤ 30 ∧ ∀ x ∈ l, GRo x.t) = C1 at D q1
  generalize hC2 : (∀ i (h : i + 1 < l.length), cmpT l[i].t.f0.data.toList l[i + 1].t.f0.data.toList < 0) = C2 at D q2 FEW
  have E1 := hide hC1
  clear hC1 hC2
  go_enter Tryz.func62, Tryz.ntmps62
  go_wp2_with fail
  rw [unhide HW]
  clear HW hmm
  refine (unhide q1 _ (unhide P0).b).mono ?_
  rintro r w1 ⟨⟨v, rfl, hv⟩, hb⟩
  have H1 := hide hv
  replace P0 := hide ((unhide P0).keep hb)
  replace K0 := hide (⟨(unhide K0).1.keepB hb (unhide K0).1.lt, (unhide K0).2.keep hb⟩ : KStr w1 (w.heap.size + 1 + 1) 0 (fun _ => none) ∧ KP w1 (w.heap.size + 1 + 1 + 1) 0 l)
  clear hb hv q1
  cases v
  case false =>
    have no : Hid (¬ G) := hide (fun g => by have := (unhide H1).2 ((unhide D).1 g).1; cases this)
    clear D FEW q2 K0 H1 E1
    have p0 := (unhide P0).x.at (o := 0) (v := .map (some (w.heap.size + 1 + 1))) rfl
    have p1 := (unhide P0).x.at (o := 1) (v := .map (some (w.heap.size + 1 + 1 + 1))) rfl
    have p2 := (unhide P0).x.at (o := 2) (v := .slice h1.a h1.len h1.cap) rfl
    have p3 := (unhide P0).x.at (o := 3) (v := .slice h2.a h2.len h2.cap) rfl
    have o0 := (unhide P0).o.at (o := 0) (v := .map none) rfl
    have o1 := (unhide P0).o.at (o := 1) (v := .map none) rfl
    have o2 := (unhide P0).o.at (o := 2) (v := .slice none 0 0) rfl
    have o3 := (unhide P0).o.at (o := 3) (v := .slice none 0 0) rfl
    have f0 := (unhide P0).o.froz 0
    have f1 := (unhide P0).o.froz 1
    have f2 := (unhide P0).o.froz 2
    have f3 := (unhide P0).o.froz 3
    go_wp2_with fail
    refine bodyPost_ret (v := .tuple #[.agg #[.map (some (w.heap.size + 1 + 1)), .map (some (w.heap.size + 1 + 1 + 1)), .slice h1.a h1.len h1.cap, .slice h2.a h2.len h2.cap], .bool false]) (by simp [results, Tryz.results62, go_sem, o0, o1, o2, o3]) rfl ⟨⟨_, _, h1, h2, false, l, rfl, ⟨fun h => (by cases h), fun h => absurd h (unhide no)⟩, rfl, unhide HT, by omega, fun h => (by cases h)⟩, ?_⟩
    repeat refine bSt ?_ (by omega) _ _
    exact (unhide P0).b
  replace H1 := hide ((unhide H1).1 rfl)
  have s0 := (unhide P0).s.at (o := 0) (v := .slice h0.a h0.len h0.cap) rfl
  go_wp2_with fail
  refine (unhide q2 _ (unhide P0).b).mono ?_
  rintro r w2 ⟨⟨v, rfl, hv⟩, hb⟩
  have H2 := hide hv
  replace P0 := hide ((unhide P0).keep hb)
  replace K0 := hide (⟨(unhide K0).1.keepB hb (unhide K0).1.lt, (unhide K0).2.keep hb⟩ : KStr w2 (w.heap.size + 1 + 1) 0 (fun _ => none) ∧ KP w2 (w.heap.size + 1 + 1 + 1) 0 l)
  clear hb hv q2 s0
  cases v
  case false =>
    have no : Hid (¬ G) := hide (fun g => by have := (unhide H2).2 ((unhide D).1 g).2.1; cases this)
    clear D FEW K0 H2 H1 E1
    have p0 := (unhide P0).x.at (o := 0) (v := .map (some (w.heap.size + 1 + 1))) rfl
    have p1 := (unhide P0).x.at (o := 1) (v := .map (some (w.heap.size + 1 + 1 + 1))) rfl
    have p2 := (unhide P0).x.at (o := 2) (v := .slice h1.a h1.len h1.cap) rfl
    have p3 := (unhide P0).x.at (o := 3) (v := .slice h2.a h2.len h2.cap) rfl
    have o0 := (unhide P0).o.at (o := 0) (v := .map none) rfl
    have o1 := (unhide P0).o.at (o := 1) (v := .map none) rfl
    have o2 := (unhide P0).o.at (o := 2) (v := .slice none 0 0) rfl
    have o3 := (unhide P0).o.at (o := 3) (v := .slice none 0 0) rfl
    have f0 := (unhide P0).o.froz 0
    have f1 := (unhide P0).o.froz 1
    have f2 := (unhide P0).o.froz 2
    have f3 := (unhide P0).o.froz 3
    go_wp2_with fail
    refine bodyPost_ret (v := .tuple #[.agg #[.map (some (w.heap.size + 1 + 1)), .map (some (w.heap.size + 1 + 1 + 1)), .slice h1.a h1.len h1.cap, .slice h2.a h2.len h2.cap], .bool false]) (by simp [results, Tryz.results62, go_sem, o0, o1, o2, o3]) rfl ⟨⟨_, _, h1, h2, false, l, rfl, ⟨fun h => (by cases h), fun h => absurd h (unhide no)⟩, rfl, unhide HT, by omega, fun h => (by cases h)⟩, ?_⟩
    repeat refine bSt ?_ (by omega) _ _
    exact (unhide P0).b
  replace H2 := hide ((unhide H2).1 rfl)
  have L30 : h0.len ≤ 30 := by have h := unhide H1; rw [← unhide E1] at h; have := unhide HTL; omega
  have s0 := (unhide P0).s.at (o := 0) (v := .slice h0.a h0.len h0.cap) rfl
  go_wp2_with fail
  clear s0
  have P20 : Hid (∀ x ∈ l, x.t.f2.length ≤ 20) := hide (fun x hx => by have h := unhide H1; rw [← unhide E1] at h; exact (h.2 x hx).2.1.1)
  go_loopw [29] (fun i w' => ∃ k : Nat, k ≤ h0.len ∧ i = .int .i64 k ∧ Hid (RIW w w' h0 h1 h2) ∧ Hid (KStr w' (w.heap.size + 1 + 1) 0 (fun _ => none) ∧ KP w' (w.heap.size + 1 + 1 + 1) k l)) (fun i _ => h0.len - (Go.RowKit.intOf i).toNat)
  case atStart => exact ⟨0, Nat.zero_le _, rfl, P0, K0⟩
  case round =>
    clear P0 K0
    obtain ⟨k, hk, rfl, P0, K0⟩ := hrel
    by_cases hlt : k < h0.len
    · have hk' : k < l.length := by have := unhide HTL; omega
      obtain ⟨b, off, e0, hrow⟩ := ((unhide HT).keep (unhide P0).b).at hlt
      have c0 := hrow.c0 k hk'
      have c1 := hrow.c1 k hk'
      have c2 := hrow.c2 k hk'
      have hnk := unhide HTN _ (List.getElem_mem hk')
      have oz := hnk.o0
      have MM := ((unhide HT).2.2 _ (List.getElem_mem hk')).m2
      obtain ⟨W, hW⟩ : ∃ W, W = wr.alloc (.cells #[.string l[k].t.f0, .slice l[k].h1.a l[k].h1.len l[k].h1.cap, .slice l[k].h2.a l[k].h2.len l[k].h2.cap] 103) := ⟨_, rfl⟩
      have bW : Below wr.heap.size wr W := by rw [hW]; exact bAl (Below.refl _ _) _
      have qW := hide (show RowIs W wr.heap.size #[.string l[k].t.f0, .slice l[k].h1.a l[k].h1.len l[k].h1.cap, .slice l[k].h2.a l[k].h2.len l[k].h2.cap] 103 by rw [hW]; exact RowIs.new wr _ _)
      have HW := hide hW.symm
      have PA := hide ((unhide P0).keep bW)
      have JA := hide ((unhide K0).1.keepB bW (unhide K0).1.lt)
      have KA := hide ((unhide K0).2.keep bW)
      have qs := hide (fun (w' : World) (hb : Below W.heap.size W w') => setOf_n l[k].h2 l[k].t.f2 w' (Nat.le_trans (unhide P20 _ (List.getElem_mem hk')) (by omega)) hnk.o2 (MM.keep (bTr (unhide PA).b hb)))
      have ST : Hid (∀ (M : ByteArray → Option Value) (bs : Nat), ((∀ s, (M s).isSome = true ↔ ∃ i, ∃ h : i < l.length, i < k ∧ l[i].t.f0 = s) ∧ ∀ s v, M s = some v → ∃ b', v = .map (some b')) → ((∀ s, (updK M l[k].t.f0 (.map (some bs)) s).isSome = true ↔ ∃ i, ∃ h : i < l.length, i < k + 1 ∧ l[i].t.f0 = s) ∧ ∀ s v, updK M l[k].t.f0 (.map (some bs)) s = some v → ∃ b', v = .map (some b'))) := hide (fun M bs h => kp_step bs hk' h)
      have zx : wr.heap.size < W.heap.size := (unhide qW).lt
      have zw : w.heap.size + 1 + 1 + 1 + 1 < wr.heap.size := (unhide P0).x.lt
      have hkm : k < maxLen := by unfold maxLen; omega
      obtain ⟨bx, hbx⟩ : ∃ n, n = wr.heap.size := ⟨_, rfl⟩
      rw [← hbx] at qW zx zw
      have HBX := hide hbx.symm
      clear hrow hnk MM hW bW hbx P0 K0 P20
      generalize l[k] = A at *
      generalize h0.a = aa at e0 ⊢
      subst e0
      have s0 := (unhide PA).x.at (o := 1) (v := .map (some (w.heap.size + 1 + 1 + 1))) rfl
      have s1 := (unhide qW).at (o := 0) (v := .string A.t.f0) rfl
      have s2 := (unhide qW).at (o := 2) (v := .slice A.h2.a A.h2.len A.h2.cap) rfl
      go_wp2_with fail
      rw [unhide HW, unhide HBX]
      clear HW HBX c0 c1 c2
      go_region_held3 (fun w' => w'.cell? ⟨w.heap.size + 1 + 1 + 1 + 1, 1, none⟩ = some (.map (some (w.heap.size + 1 + 1 + 1))) ∧ w'.cell? ⟨bx, 0, none⟩ = some (.string A.t.f0) ∧ w'.cell? ⟨bx, 2, none⟩ = some (.slice A.h2.a A.h2.len A.h2.cap))
        (first | exact ⟨s0, s1, s2⟩ | exact unhide Y4 | exact unhide Y5)
        (first
          | (go_at_call 82; refine (unhide qs _ (Below.refl _ _).drew).mono ?_; rintro e w4 ⟨⟨bs, rfl, hbs, hK⟩, hb⟩; replace hb := undrew hb; have P4 := hide ((unhide PA).keep hb); have Q4 := hide ((unhide qW).keep hb); have Y4 := hide (And.intro ((unhide P4).x.at (o := 1) (v := .map (some (w.heap.size + 1 + 1 + 1))) rfl) (And.intro ((unhide Q4).at (o := 0) (v := .string A.t.f0) rfl) ((unhide Q4).at (o := 2) (v := .slice A.h2.a A.h2.len A.h2.cap) rfl))); have J4 := hide ((unhide JA).keepB hb (unhide JA).lt); obtain ⟨M, hM, hi⟩ := (unhide KA).keep hb; obtain ⟨w5, hrun5, hk5, hg5, hs5⟩ := put_run (t := 66) kStr Tryz.underlying66 hM hkm A.t.f0 (.map (some bs)) oz; have P5 := hide ((unhide P4).grown hg5 (.inr rfl)); have Q5 := hide (rowG (unhide Q4) hg5 (by omega)); have Y5 := hide (And.intro ((unhide P5).x.at (o := 1) (v := .map (some (w.heap.size + 1 + 1 + 1))) rfl) (And.intro ((unhide Q5).at (o := 0) (v := .string A.t.f0) rfl) ((unhide Q5).at (o := 2) (v := .slice A.h2.a A.h2.len A.h2.cap) rfl))); have J5 := hide ((unhide J4).kept hg5 (fun e => by have := Option.some.inj e; omega)); have K5 := hide (show KP w5 (w.heap.size + 1 + 1 + 1) (k + 1) l from ⟨_, hk5, unhide ST M bs hi⟩); clear hk5 hg5 hs5 hM hi hK hb hbs))
      iterate 14 (try clear hHeld)
      clear qs ST PA JA KA qW P4 Q4 Y4 J4 Q5 Y5 hrun5 s0 s1 s2
      go_wp2_with fail
      exact ⟨⟨k + 1, by omega, by go_num, P5, hide ⟨unhide J5, unhide K5⟩⟩, by simp [Go.RowKit.intOf]; omega⟩
    · have ek : k = l.length := by have := unhide HTL; omega
      have KTW : Hid (KT wr (w.heap.size + 1 + 1 + 1) ns) := hide (by have := (unhide K0).2; rw [ek] at this; rw [← unhide NS]; exact this.all)
      have J0 := hide (unhide K0).1
      clear K0 ek P20
      go_wp2_with fail
      clear hk hlt
      have q3 := hide (fun (w' : World) (hb : Below wr.heap.size wr w') => every_abv (w.heap.size + 1 + 1 + 1 + 1) (fun e => AllR ns e.t.f1) h0 l w' (unhide LTM) (((unhide HT).keep (unhide P0).b).keep hb) (fun x hx w'' hb2 => isAbove_n (w.heap.size + 1 + 1 + 1 + 1) (w.heap.size + 1 + 1) (w.heap.size + 1 + 1 + 1) h1 h2 ns x w'' (unhide HTN x hx) ((((unhide HT).2.2 x hx).keep (unhide P0).b).keep (bTr hb hb2)) (((unhide P0).x.keep hb).keep hb2) (((unhide KTW).keep hb).keep hb2)))
      have q4 := hide (fun (w' : World) (hb : Below wr.heap.size wr w') (hC : C2) (h3 : ∀ e ∈ l, AllR ns e.t.f1) => learnJuniors_n (w.heap.size + 1 + 1) (w.heap.size + 1 + 1 + 1) h1 h2 h0 l w' (unhide FEW (by have h := unhide H1; rw [← unhide E1] at h; exact h.1) hC h3).1 (unhide FEW (by have h := unhide H1; rw [← unhide E1] at h; exact h.1) hC h3).2.1 (by rw [unhide NS]; exact (unhide FEW (by have h := unhide H1; rw [← unhide E1] at h; exact h.1) hC h3).2.2) (unhide HTN) (((unhide HT).keep (unhide P0).b).keep hb) ((unhide J0).keepB hb (unhide J0).lt))
      have q5 := hide (fun (w' : World) (hb : Below w.heap.size w w') (hk : KT w' (w.heap.size + 1 + 1 + 1) ns) => goodList_gap (w.heap.size + 1 + 1) (w.heap.size + 1 + 1 + 1) h1 h2 (fun e => GAp ns e.t) 10 h1 pl w' (unhide LAM) ((unhide HA).keep hb) (fun x hx w'' hb2 => goodApart_n (w.heap.size + 1 + 1) (w.heap.size + 1 + 1 + 1) h1 h2 ns x w'' (unhide HAN x hx) (hk.keep hb2) (((unhide HA).2.2 x hx).keep (bTr hb hb2))))
      have q6 := hide (fun (w' : World) (hb : Below w.heap.size w w') (hk : KT w' (w.heap.size + 1 + 1 + 1) ns) => areRoles_n (w.heap.size + 1 + 1) (w.heap.size + 1 + 1 + 1) h1 h2 ns h2 gs w' (unhide LG) (unhide OG) hk ((unhide HG).keep hb))
      have DD : Hid (G ↔ ((∀ e ∈ l, AllR ns e.t.f1) ∧ GEnd (l.map (·.t)) ∧ ((pl.length : Int) ≤ 10 ∧ ∀ p ∈ pl, GAp ns p.t) ∧ AllR ns gs)) := hide ((unhide D).trans ⟨fun h => h.2.2, fun h => ⟨unhide H1, unhide H2, h⟩⟩)
      have zX : w.heap.size + 1 + 1 + 1 + 1 < wr.heap.size := (unhide P0).x.lt
      clear D FEW E1 H1 J0 HTN HAN LTM LAM HTL HAL HA HG OG LG NS
      by_cases g3 : ∀ e ∈ l, AllR ns e.t.f1
      case neg =>
        have no : Hid (¬ G) := hide (fun g => g3 ((unhide DD).1 g).1)
        refine wp_region_held_drew (S := fun w' => RowIs w' (w.heap.size) #[.slice h0.a h0.len h0.cap, .slice h1.a h1.len h1.cap, .slice h2.a h2.len h2.cap] 38 ∧ RowIs w' (w.heap.size + 1 + 1 + 1 + 1) #[.map (some (w.heap.size + 1 + 1)), .map (some (w.heap.size + 1 + 1 + 1)), .slice h1.a h1.len h1.cap, .slice h2.a h2.len h2.cap] 68 ∧ ∃ C : Array Value, RowIs w' (w.heap.size + 1) C 68 ∧ C.size = 4) (by kernel_rfl) ⟨(unhide P0).s, (unhide P0).x, _, (unhide P0).o, rfl⟩ (fun hHeld => ?_)
        refine takeD (i := 0) (v := .agg #[.map (some (w.heap.size + 1 + 1)), .map (some (w.heap.size + 1 + 1 + 1)), .slice h1.a h1.len h1.cap, .slice h2.a h2.len h2.cap]) (d := some 42) rfl (by kernel_rfl) (by kernel_rfl) (by kernel_rfl) (by kernel_rfl) (fun _ _ _ h => h) (yields_row (by kernel_rfl) 68 _ rfl (w.heap.size + 1 + 1 + 1 + 1) rfl 68 _ _ (fun w h => h.2.1) Tryz.underlying68 rfl (by kernel_rfl)) (by assumption) ?_
        try simp only [Act.put, List.setIfInBounds_toArray, List.set_cons_zero, List.set_cons_succ]
        refine takeD (i := 1) (v := .pointer (some ⟨w.heap.size, 0, none⟩)) (d := some 43) rfl (by kernel_rfl) (by kernel_rfl) (by kernel_rfl) (by kernel_rfl) (fun _ _ _ h => h) (.inl ⟨by kernel_rfl, fun w hSw => ?_⟩) (by assumption) ?_
        · go_simp
        try simp only [Act.put, List.setIfInBounds_toArray, List.set_cons_zero, List.set_cons_succ]
        refine takeD (i := 2) (v := .slice h0.a h0.len h0.cap) (d := some 44) rfl (by kernel_rfl) (by kernel_rfl) (by kernel_rfl) (by kernel_rfl) (fun _ _ _ h => h) (.inl ⟨by kernel_rfl, fun w hSw => ?_⟩) (by assumption) ?_
        · have c := hSw.1.at (o := 0) (v := .slice h0.a h0.len h0.cap) rfl
          go_simp
        try simp only [Act.put, List.setIfInBounds_toArray, List.set_cons_zero, List.set_cons_succ]
        refine takeD (i := 3) (v := .func (.func 83) #[] #[.pointer (some ⟨w.heap.size + 1 + 1 + 1 + 1, 0, none⟩)]) (d := some 45) rfl (by kernel_rfl) (by kernel_rfl) (by kernel_rfl) (by kernel_rfl) (fun _ _ _ h => h) (.inl ⟨by kernel_rfl, fun w hSw => ?_⟩) (by assumption) ?_
        · go_simp
        try simp only [Act.put, List.setIfInBounds_toArray, List.set_cons_zero, List.set_cons_succ]
        refine wpAnyH_ready (rs := [4]) (by kernel_rfl) (by simp) ?_
        refine AllReadyH.cons (by rfl) (fun K hK => ?_) AllReadyH.nil
        go_simp
        refine (callsF5 (unhide q3 _ (Below.refl _ _).drew) g3).mono ?_
        rintro r_ w4 ⟨rfl, hb4⟩
        replace hb4 := undrew hb4
        have P4 := (unhide P0).keep hb4
        have K4 := hide ((unhide KTW).keep hb4)
        have HB4 := hide hb4
        clear hb4
        try dsimp only
        refine hK.out _ _ ⟨P4.s, P4.x, _, P4.o, rfl⟩ (fun hHeld4 => ?_)
        have PH4 := hide P4
        clear hK K hHeld P4
        try simp only [Act.put, List.setIfInBounds_toArray, List.set_cons_zero, List.set_cons_succ]
        refine takeD (i := 5) (v := .bool false) (d := some 47) rfl (by kernel_rfl) (by kernel_rfl) (by kernel_rfl) (by kernel_rfl) (fun _ _ _ h => h) (.inl ⟨by kernel_rfl, fun w hSw => ?_⟩) (by assumption) ?_
        · go_simp
        try simp only [Act.put, List.setIfInBounds_toArray, List.set_cons_zero, List.set_cons_succ]
        refine takeD (i := 6) (v := undef) (d := some 48) rfl (by kernel_rfl) (by kernel_rfl) (by kernel_rfl) (by kernel_rfl) (fun _ _ _ h => h) (.inr ⟨by kernel_rfl, rfl⟩) (by assumption) ?_
        try simp only [Act.put, List.setIfInBounds_toArray, List.set_cons_zero, List.set_cons_succ]
        refine takeD (i := 7) (v := undef) (d := some 49) rfl (by kernel_rfl) (by kernel_rfl) (by kernel_rfl) (by kernel_rfl) (fun _ _ _ h => h) (.inr ⟨by kernel_rfl, rfl⟩) (by assumption) ?_
        try simp only [Act.put, List.setIfInBounds_toArray, List.set_cons_zero, List.set_cons_succ]
        refine takeD (i := 8) (v := undef) (d := some 50) rfl (by kernel_rfl) (by kernel_rfl) (by kernel_rfl) (by kernel_rfl) (fun _ _ _ h => h) (.inr ⟨by kernel_rfl, rfl⟩) (by assumption) ?_
        try simp only [Act.put, List.setIfInBounds_toArray, List.set_cons_zero, List.set_cons_succ]
        refine takeD (i := 9) (v := undef) (d := some 51) rfl (by kernel_rfl) (by kernel_rfl) (by kernel_rfl) (by kernel_rfl) (fun _ _ _ h => h) (.inr ⟨by kernel_rfl, rfl⟩) (by assumption) ?_
        try simp only [Act.put, List.setIfInBounds_toArray, List.set_cons_zero, List.set_cons_succ]
        refine takeD (i := 10) (v := .bool false) (d := some 52) rfl (by kernel_rfl) (by kernel_rfl) (by kernel_rfl) (by kernel_rfl) (fun _ _ _ h => h) (.inl ⟨by kernel_rfl, fun w hSw => ?_⟩) (by assumption) ?_
        · go_simp
        try simp only [Act.put, List.setIfInBounds_toArray, List.set_cons_zero, List.set_cons_succ]
        refine takeD (i := 11) (v := .bool false) (d := some 53) rfl (by kernel_rfl) (by kernel_rfl) (by kernel_rfl) (by kernel_rfl) (fun _ _ _ h => h) (.inl ⟨by kernel_rfl, fun w hSw => ?_⟩) (by assumption) ?_
        · go_simp
        try simp only [Act.put, List.setIfInBounds_toArray, List.set_cons_zero, List.set_cons_succ]
        refine takeD (i := 12) (v := undef) (d := some 54) rfl (by kernel_rfl) (by kernel_rfl) (by kernel_rfl) (by kernel_rfl) (fun _ _ _ h => h) (.inr ⟨by kernel_rfl, rfl⟩) (by assumption) ?_
        try simp only [Act.put, List.setIfInBounds_toArray, List.set_cons_zero, List.set_cons_succ]
        refine takeD (i := 13) (v := undef) (d := some 55) rfl (by kernel_rfl) (by kernel_rfl) (by kernel_rfl) (by kernel_rfl) (fun _ _ _ h => h) (.inr ⟨by kernel_rfl, rfl⟩) (by assumption) ?_
        try simp only [Act.put, List.setIfInBounds_toArray, List.set_cons_zero, List.set_cons_succ]
        refine takeD (i := 14) (v := undef) (d := some 56) rfl (by kernel_rfl) (by kernel_rfl) (by kernel_rfl) (by kernel_rfl) (fun _ _ _ h => h) (.inr ⟨by kernel_rfl, rfl⟩) (by assumption) ?_
        try simp only [Act.put, List.setIfInBounds_toArray, List.set_cons_zero, List.set_cons_succ]
        refine takeD (i := 15) (v := undef) (d := some 57) rfl (by kernel_rfl) (by kernel_rfl) (by kernel_rfl) (by kernel_rfl) (fun _ _ _ h => h) (.inr ⟨by kernel_rfl, rfl⟩) (by assumption) ?_
        try simp only [Act.put, List.setIfInBounds_toArray, List.set_cons_zero, List.set_cons_succ]
        refine takeD (i := 16) (v := undef) (d := some 58) rfl (by kernel_rfl) (by kernel_rfl) (by kernel_rfl) (by kernel_rfl) (fun _ _ _ h => h) (.inr ⟨by kernel_rfl, rfl⟩) (by assumption) ?_
        try simp only [Act.put, List.setIfInBounds_toArray, List.set_cons_zero, List.set_cons_succ]
        refine takeD (i := 17) (v := .bool false) (d := some 59) rfl (by kernel_rfl) (by kernel_rfl) (by kernel_rfl) (by kernel_rfl) (fun _ _ _ h => h) (.inl ⟨by kernel_rfl, fun w hSw => ?_⟩) (by assumption) ?_
        · go_simp
        try simp only [Act.put, List.setIfInBounds_toArray, List.set_cons_zero, List.set_cons_succ]
        refine takeD (i := 18) (v := .bool false) (d := some 60) rfl (by kernel_rfl) (by kernel_rfl) (by kernel_rfl) (by kernel_rfl) (fun _ _ _ h => h) (.inl ⟨by kernel_rfl, fun w hSw => ?_⟩) (by assumption) ?_
        · go_simp
        try simp only [Act.put, List.setIfInBounds_toArray, List.set_cons_zero, List.set_cons_succ]
        refine takeD (i := 19) (v := undef) (d := some 61) rfl (by kernel_rfl) (by kernel_rfl) (by kernel_rfl) (by kernel_rfl) (fun _ _ _ h => h) (.inr ⟨by kernel_rfl, rfl⟩) (by assumption) ?_
        try simp only [Act.put, List.setIfInBounds_toArray, List.set_cons_zero, List.set_cons_succ]
        refine takeD (i := 20) (v := undef) (d := some 62) rfl (by kernel_rfl) (by kernel_rfl) (by kernel_rfl) (by kernel_rfl) (fun _ _ _ h => h) (.inr ⟨by kernel_rfl, rfl⟩) (by assumption) ?_
        try simp only [Act.put, List.setIfInBounds_toArray, List.set_cons_zero, List.set_cons_succ]
        refine takeD (i := 21) (v := undef) (d := some 63) rfl (by kernel_rfl) (by kernel_rfl) (by kernel_rfl) (by kernel_rfl) (fun _ _ _ h => h) (.inr ⟨by kernel_rfl, rfl⟩) (by assumption) ?_
        try simp only [Act.put, List.setIfInBounds_toArray, List.set_cons_zero, List.set_cons_succ]
        refine takeD (i := 22) (v := undef) (d := some 64) rfl (by kernel_rfl) (by kernel_rfl) (by kernel_rfl) (by kernel_rfl) (fun _ _ _ h => h) (.inr ⟨by kernel_rfl, rfl⟩) (by assumption) ?_
        try simp only [Act.put, List.setIfInBounds_toArray, List.set_cons_zero, List.set_cons_succ]
        refine takeD (i := 23) (v := .bool false) (d := some 65) rfl (by kernel_rfl) (by kernel_rfl) (by kernel_rfl) (by kernel_rfl) (fun _ _ _ h => h) (.inl ⟨by kernel_rfl, fun w hSw => ?_⟩) (by assumption) ?_
        · go_simp
        try simp only [Act.put, List.setIfInBounds_toArray, List.set_cons_zero, List.set_cons_succ]
        refine wpAnyH_ready (rs := [24]) (by kernel_rfl) (by simp) ?_
        refine AllReadyH.cons (by rfl) (fun K hK => ?_) AllReadyH.nil
        rw [if_pos (by kernel_rfl)]
        obtain ⟨C, hC, hCs⟩ := hHeld4.2.2
        refine wp_store_row 68 _ _ rfl (w.heap.size + 1) #[.map (some (w.heap.size + 1 + 1)), .map (some (w.heap.size + 1 + 1 + 1)), .slice h1.a h1.len h1.cap, .slice h2.a h2.len h2.cap] rfl rfl 68 C hC (by kernel_rfl) hCs (by simp [Value.oneCell']) ?_
        have F : RowIs (World.setRow w4 (w.heap.size + 1) #[.map (some (w.heap.size + 1 + 1)), .map (some (w.heap.size + 1 + 1 + 1)), .slice h1.a h1.len h1.cap, .slice h2.a h2.len h2.cap]) (w.heap.size + 1) #[.map (some (w.heap.size + 1 + 1)), .map (some (w.heap.size + 1 + 1 + 1)), .slice h1.a h1.len h1.cap, .slice h2.a h2.len h2.cap] 68 := setRow_heap _ _ _ _ _ _ hC
        have FS : RowIs (World.setRow w4 (w.heap.size + 1) #[.map (some (w.heap.size + 1 + 1)), .map (some (w.heap.size + 1 + 1 + 1)), .slice h1.a h1.len h1.cap, .slice h2.a h2.len h2.cap]) (w.heap.size) #[.slice h0.a h0.len h0.cap, .slice h1.a h1.len h1.cap, .slice h2.a h2.len h2.cap] 38 := by unfold RowIs; rw [setRow_other _ _ _ _ (by omega)]; exact hHeld4.1
        have FX : RowIs (World.setRow w4 (w.heap.size + 1) #[.map (some (w.heap.size + 1 + 1)), .map (some (w.heap.size + 1 + 1 + 1)), .slice h1.a h1.len h1.cap, .slice h2.a h2.len h2.cap]) (w.heap.size + 1 + 1 + 1 + 1) #[.map (some (w.heap.size + 1 + 1)), .map (some (w.heap.size + 1 + 1 + 1)), .slice h1.a h1.len h1.cap, .slice h2.a h2.len h2.cap] 68 := by unfold RowIs; rw [setRow_other _ _ _ _ (by omega)]; exact hHeld4.2.1
        refine hK.out _ _ ⟨FS, FX, _, F, rfl⟩ (fun hHeldZ => ?_)
        have HF := hide F
        clear hK K hC hCs F FS FX hHeld4
        try simp only [Act.put, List.setIfInBounds_toArray, List.set_cons_zero, List.set_cons_succ]
        refine takeD (i := 25) (v := .bool false) (d := some 3) rfl (by kernel_rfl) (by kernel_rfl) (by kernel_rfl) (by kernel_rfl) (fun _ _ _ h => h) (.inl ⟨by kernel_rfl, fun w hSw => ?_⟩) (by assumption) ?_
        · go_simp
        try simp only [Act.put, List.setIfInBounds_toArray, List.set_cons_zero, List.set_cons_succ]
        refine wpAnyH_done (by kernel_rfl) ?_ _
        clear hHeldZ
        go_wp2_with fail
        refine bodyPost_ret (v := .tuple #[.agg #[.map (some (w.heap.size + 1 + 1)), .map (some (w.heap.size + 1 + 1 + 1)), .slice h1.a h1.len h1.cap, .slice h2.a h2.len h2.cap], .bool false]) ?_ rfl ?_
        · exact results_two5 rfl _ _ (w.heap.size + 1) 68 #[.map (some (w.heap.size + 1 + 1)), .map (some (w.heap.size + 1 + 1 + 1)), .slice h1.a h1.len h1.cap, .slice h2.a h2.len h2.cap] (0, 0) _ (.bool false) rfl rfl (unhide HF) Tryz.underlying68 rfl (by kernel_rfl)
        · exact ⟨⟨_, _, h1, h2, false, l, rfl, ⟨fun h => (by cases h), fun h => absurd h (unhide no)⟩, rfl, unhide HT, by omega, fun h => (by cases h)⟩, bRow (unhide PH4).b (by omega) _⟩
      by_cases g4 : GEnd (l.map (·.t))
      case neg =>
        have no : Hid (¬ G) := hide (fun g => g4 ((unhide DD).1 g).2.1)
        refine wp_region_held_drew (S := fun w' => RowIs w' (w.heap.size) #[.slice h0.a h0.len h0.cap, .slice h1.a h1.len h1.cap, .slice h2.a h2.len h2.cap] 38 ∧ RowIs w' (w.heap.size + 1 + 1 + 1 + 1) #[.map (some (w.heap.size + 1 + 1)), .map (some (w.heap.size + 1 + 1 + 1)), .slice h1.a h1.len h1.cap, .slice h2.a h2.len h2.cap] 68 ∧ ∃ C : Array Value, RowIs w' (w.heap.size + 1) C 68 ∧ C.size = 4) (by kernel_rfl) ⟨(unhide P0).s, (unhide P0).x, _, (unhide P0).o, rfl⟩ (fun hHeld => ?_)
        refine takeD (i := 0) (v := .agg #[.map (some (w.heap.size + 1 + 1)), .map (some (w.heap.size + 1 + 1 + 1)), .slice h1.a h1.len h1.cap, .slice h2.a h2.len h2.cap]) (d := some 42) rfl (by kernel_rfl) (by kernel_rfl) (by kernel_rfl) (by kernel_rfl) (fun _ _ _ h => h) (yields_row (by kernel_rfl) 68 _ rfl (w.heap.size + 1 + 1 + 1 + 1) rfl 68 _ _ (fun w h => h.2.1) Tryz.underlying68 rfl (by kernel_rfl)) (by assumption) ?_
        try simp only [Act.put, List.setIfInBounds_toArray, List.set_cons_zero, List.set_cons_succ]
        refine takeD (i := 1) (v := .pointer (some ⟨w.heap.size, 0, none⟩)) (d := some 43) rfl (by kernel_rfl) (by kernel_rfl) (by kernel_rfl) (by kernel_rfl) (fun _ _ _ h => h) (.inl ⟨by kernel_rfl, fun w hSw => ?_⟩) (by assumption) ?_
        · go_simp
        try simp only [Act.put, List.setIfInBounds_toArray, List.set_cons_zero, List.set_cons_succ]
        refine takeD (i := 2) (v := .slice h0.a h0.len h0.cap) (d := some 44) rfl (by kernel_rfl) (by kernel_rfl) (by kernel_rfl) (by kernel_rfl) (fun _ _ _ h => h) (.inl ⟨by kernel_rfl, fun w hSw => ?_⟩) (by assumption) ?_
        · have c := hSw.1.at (o := 0) (v := .slice h0.a h0.len h0.cap) rfl
          go_simp
        try simp only [Act.put, List.setIfInBounds_toArray, List.set_cons_zero, List.set_cons_succ]
        refine takeD (i := 3) (v := .func (.func 83) #[] #[.pointer (some ⟨w.heap.size + 1 + 1 + 1 + 1, 0, none⟩)]) (d := some 45) rfl (by kernel_rfl) (by kernel_rfl) (by kernel_rfl) (by kernel_rfl) (fun _ _ _ h => h) (.inl ⟨by kernel_rfl, fun w hSw => ?_⟩) (by assumption) ?_
        · go_simp
        try simp only [Act.put, List.setIfInBounds_toArray, List.set_cons_zero, List.set_cons_succ]
        refine wpAnyH_ready (rs := [4]) (by kernel_rfl) (by simp) ?_
        refine AllReadyH.cons (by rfl) (fun K hK => ?_) AllReadyH.nil
        go_simp
        refine (callsT5 (unhide q3 _ (Below.refl _ _).drew) g3).mono ?_
        rintro r_ w4 ⟨rfl, hb4⟩
        replace hb4 := undrew hb4
        have P4 := (unhide P0).keep hb4
        have K4 := hide ((unhide KTW).keep hb4)
        have HB4 := hide hb4
        clear hb4
        try dsimp only
        refine hK.out _ _ ⟨P4.s, P4.x, _, P4.o, rfl⟩ (fun hHeld4 => ?_)
        have PH4 := hide P4
        clear hK K hHeld P4
        try simp only [Act.put, List.setIfInBounds_toArray, List.set_cons_zero, List.set_cons_succ]
        refine takeD (i := 5) (v := .bool true) (d := some 47) rfl (by kernel_rfl) (by kernel_rfl) (by kernel_rfl) (by kernel_rfl) (fun _ _ _ h => h) (.inl ⟨by kernel_rfl, fun w hSw => ?_⟩) (by assumption) ?_
        · go_simp
        try simp only [Act.put, List.setIfInBounds_toArray, List.set_cons_zero, List.set_cons_succ]
        refine takeD (i := 6) (v := .agg #[.map (some (w.heap.size + 1 + 1)), .map (some (w.heap.size + 1 + 1 + 1)), .slice h1.a h1.len h1.cap, .slice h2.a h2.len h2.cap]) (d := some 48) rfl (by kernel_rfl) (by kernel_rfl) (by kernel_rfl) (by kernel_rfl) (fun _ _ _ h => h) (yields_row (by kernel_rfl) 68 _ rfl (w.heap.size + 1 + 1 + 1 + 1) rfl 68 _ _ (fun w h => h.2.1) Tryz.underlying68 rfl (by kernel_rfl)) (by assumption) ?_
        try simp only [Act.put, List.setIfInBounds_toArray, List.set_cons_zero, List.set_cons_succ]
        refine takeD (i := 7) (v := .pointer (some ⟨w.heap.size, 0, none⟩)) (d := some 49) rfl (by kernel_rfl) (by kernel_rfl) (by kernel_rfl) (by kernel_rfl) (fun _ _ _ h => h) (.inl ⟨by kernel_rfl, fun w hSw => ?_⟩) (by assumption) ?_
        · go_simp
        try simp only [Act.put, List.setIfInBounds_toArray, List.set_cons_zero, List.set_cons_succ]
        refine takeD (i := 8) (v := .slice h0.a h0.len h0.cap) (d := some 50) rfl (by kernel_rfl) (by kernel_rfl) (by kernel_rfl) (by kernel_rfl) (fun _ _ _ h => h) (.inl ⟨by kernel_rfl, fun w hSw => ?_⟩) (by assumption) ?_
        · have c := hSw.1.at (o := 0) (v := .slice h0.a h0.len h0.cap) rfl
          go_simp
        try simp only [Act.put, List.setIfInBounds_toArray, List.set_cons_zero, List.set_cons_succ]
        refine wpAnyH_ready (rs := [9]) (by kernel_rfl) (by simp) ?_
        refine AllReadyH.cons (by rfl) (fun K hK => ?_) AllReadyH.nil
        go_simp
        refine (unhide q4 _ (unhide HB4) (unhide H2) g3).mono ?_
        rintro r_ w9 ⟨⟨v9, rfl, hv9, hj9⟩, hg9⟩
        obtain rfl : v9 = false := by cases v9; rfl; exact absurd (hv9.1 rfl) g4
        have P9 := (unhide PH4).grown hg9 (.inl rfl)
        have K9 := hide ((unhide K4).kept hg9 (fun e => by have := Option.some.inj e; omega))
        clear hv9 hj9 hg9
        try dsimp only
        refine hK.out _ _ ⟨P9.s, P9.x, _, P9.o, rfl⟩ (fun hHeld9 => ?_)
        have PH9 := hide P9
        clear hK K hHeld4 P9
        try simp only [Act.put, List.setIfInBounds_toArray, List.set_cons_zero, List.set_cons_succ]
        refine takeD (i := 10) (v := .bool false) (d := some 52) rfl (by kernel_rfl) (by kernel_rfl) (by kernel_rfl) (by kernel_rfl) (fun _ _ _ h => h) (.inl ⟨by kernel_rfl, fun w hSw => ?_⟩) (by assumption) ?_
        · go_simp
        try simp only [Act.put, List.setIfInBounds_toArray, List.set_cons_zero, List.set_cons_succ]
        refine takeD (i := 11) (v := .bool false) (d := some 53) rfl (by kernel_rfl) (by kernel_rfl) (by kernel_rfl) (by kernel_rfl) (fun _ _ _ h => h) (.inl ⟨by kernel_rfl, fun w hSw => ?_⟩) (by assumption) ?_
        · go_simp
        try simp only [Act.put, List.setIfInBounds_toArray, List.set_cons_zero, List.set_cons_succ]
        refine takeD (i := 12) (v := undef) (d := some 54) rfl (by kernel_rfl) (by kernel_rfl) (by kernel_rfl) (by kernel_rfl) (fun _ _ _ h => h) (.inr ⟨by kernel_rfl, rfl⟩) (by assumption) ?_
        try simp only [Act.put, List.setIfInBounds_toArray, List.set_cons_zero, List.set_cons_succ]
        refine takeD (i := 13) (v := undef) (d := some 55) rfl (by kernel_rfl) (by kernel_rfl) (by kernel_rfl) (by kernel_rfl) (fun _ _ _ h => h) (.inr ⟨by kernel_rfl, rfl⟩) (by assumption) ?_
        try simp only [Act.put, List.setIfInBounds_toArray, List.set_cons_zero, List.set_cons_succ]
        refine takeD (i := 14) (v := undef) (d := some 56) rfl (by kernel_rfl) (by kernel_rfl) (by kernel_rfl) (by kernel_rfl) (fun _ _ _ h => h) (.inr ⟨by kernel_rfl, rfl⟩) (by assumption) ?_
        try simp only [Act.put, List.setIfInBounds_toArray, List.set_cons_zero, List.set_cons_succ]
        refine takeD (i := 15) (v := undef) (d := some 57) rfl (by kernel_rfl) (by kernel_rfl) (by kernel_rfl) (by kernel_rfl) (fun _ _ _ h => h) (.inr ⟨by kernel_rfl, rfl⟩) (by assumption) ?_
        try simp only [Act.put, List.setIfInBounds_toArray, List.set_cons_zero, List.set_cons_succ]
        refine takeD (i := 16) (v := undef) (d := some 58) rfl (by kernel_rfl) (by kernel_rfl) (by kernel_rfl) (by kernel_rfl) (fun _ _ _ h => h) (.inr ⟨by kernel_rfl, rfl⟩) (by assumption) ?_
        try simp only [Act.put, List.setIfInBounds_toArray, List.set_cons_zero, List.set_cons_succ]
        refine takeD (i := 17) (v := .bool false) (d := some 59) rfl (by kernel_rfl) (by kernel_rfl) (by kernel_rfl) (by kernel_rfl) (fun _ _ _ h => h) (.inl ⟨by kernel_rfl, fun w hSw => ?_⟩) (by assumption) ?_
        · go_simp
        try simp only [Act.put, List.setIfInBounds_toArray, List.set_cons_zero, List.set_cons_succ]
        refine takeD (i := 18) (v := .bool false) (d := some 60) rfl (by kernel_rfl) (by kernel_rfl) (by kernel_rfl) (by kernel_rfl) (fun _ _ _ h => h) (.inl ⟨by kernel_rfl, fun w hSw => ?_⟩) (by assumption) ?_
        · go_simp
        try simp only [Act.put, List.setIfInBounds_toArray, List.set_cons_zero, List.set_cons_succ]
        refine takeD (i := 19) (v := undef) (d := some 61) rfl (by kernel_rfl) (by kernel_rfl) (by kernel_rfl) (by kernel_rfl) (fun _ _ _ h => h) (.inr ⟨by kernel_rfl, rfl⟩) (by assumption) ?_
        try simp only [Act.put, List.setIfInBounds_toArray, List.set_cons_zero, List.set_cons_succ]
        refine takeD (i := 20) (v := undef) (d := some 62) rfl (by kernel_rfl) (by kernel_rfl) (by kernel_rfl) (by kernel_rfl) (fun _ _ _ h => h) (.inr ⟨by kernel_rfl, rfl⟩) (by assumption) ?_
        try simp only [Act.put, List.setIfInBounds_toArray, List.set_cons_zero, List.set_cons_succ]
        refine takeD (i := 21) (v := undef) (d := some 63) rfl (by kernel_rfl) (by kernel_rfl) (by kernel_rfl) (by kernel_rfl) (fun _ _ _ h => h) (.inr ⟨by kernel_rfl, rfl⟩) (by assumption) ?_
        try simp only [Act.put, List.setIfInBounds_toArray, List.set_cons_zero, List.set_cons_succ]
        refine takeD (i := 22) (v := undef) (d := some 64) rfl (by kernel_rfl) (by kernel_rfl) (by kernel_rfl) (by kernel_rfl) (fun _ _ _ h => h) (.inr ⟨by kernel_rfl, rfl⟩) (by assumption) ?_
        try simp only [Act.put, List.setIfInBounds_toArray, List.set_cons_zero, List.set_cons_succ]
        refine takeD (i := 23) (v := .bool false) (d := some 65) rfl (by kernel_rfl) (by kernel_rfl) (by kernel_rfl) (by kernel_rfl) (fun _ _ _ h => h) (.inl ⟨by kernel_rfl, fun w hSw => ?_⟩) (by assumption) ?_
        · go_simp
        try simp only [Act.put, List.setIfInBounds_toArray, List.set_cons_zero, List.set_cons_succ]
        refine wpAnyH_ready (rs := [24]) (by kernel_rfl) (by simp) ?_
        refine AllReadyH.cons (by rfl) (fun K hK => ?_) AllReadyH.nil
        rw [if_pos (by kernel_rfl)]
        obtain ⟨C, hC, hCs⟩ := hHeld9.2.2
        refine wp_store_row 68 _ _ rfl (w.heap.size + 1) #[.map (some (w.heap.size + 1 + 1)), .map (some (w.heap.size + 1 + 1 + 1)), .slice h1.a h1.len h1.cap, .slice h2.a h2.len h2.cap] rfl rfl 68 C hC (by kernel_rfl) hCs (by simp [Value.oneCell']) ?_
        have F : RowIs (World.setRow w9 (w.heap.size + 1) #[.map (some (w.heap.size + 1 + 1)), .map (some (w.heap.size + 1 + 1 + 1)), .slice h1.a h1.len h1.cap, .slice h2.a h2.len h2.cap]) (w.heap.size + 1) #[.map (some (w.heap.size + 1 + 1)), .map (some (w.heap.size + 1 + 1 + 1)), .slice h1.a h1.len h1.cap, .slice h2.a h2.len h2.cap] 68 := setRow_heap _ _ _ _ _ _ hC
        have FS : RowIs (World.setRow w9 (w.heap.size + 1) #[.map (some (w.heap.size + 1 + 1)), .map (some (w.heap.size + 1 + 1 + 1)), .slice h1.a h1.len h1.cap, .slice h2.a h2.len h2.cap]) (w.heap.size) #[.slice h0.a h0.len h0.cap, .slice h1.a h1.len h1.cap, .slice h2.a h2.len h2.cap] 38 := by unfold RowIs; rw [setRow_other _ _ _ _ (by omega)]; exact hHeld9.1
        have FX : RowIs (World.setRow w9 (w.heap.size + 1) #[.map (some (w.heap.size + 1 + 1)), .map (some (w.heap.size + 1 + 1 + 1)), .slice h1.a h1.len h1.cap, .slice h2.a h2.len h2.cap]) (w.heap.size + 1 + 1 + 1 + 1) #[.map (some (w.heap.size + 1 + 1)), .map (some (w.heap.size + 1 + 1 + 1)), .slice h1.a h1.len h1.cap, .slice h2.a h2.len h2.cap] 68 := by unfold RowIs; rw [setRow_other _ _ _ _ (by omega)]; exact hHeld9.2.1
        refine hK.out _ _ ⟨FS, FX, _, F, rfl⟩ (fun hHeldZ => ?_)
        have HF := hide F
        clear hK K hC hCs F FS FX hHeld9
        try simp only [Act.put, List.setIfInBounds_toArray, List.set_cons_zero, List.set_cons_succ]
        refine takeD (i := 25) (v := .bool false) (d := some 3) rfl (by kernel_rfl) (by kernel_rfl) (by kernel_rfl) (by kernel_rfl) (fun _ _ _ h => h) (.inl ⟨by kernel_rfl, fun w hSw => ?_⟩) (by assumption) ?_
        · go_simp
        try simp only [Act.put, List.setIfInBounds_toArray, List.set_cons_zero, List.set_cons_succ]
        refine wpAnyH_done (by kernel_rfl) ?_ _
        clear hHeldZ
        go_wp2_with fail
        refine bodyPost_ret (v := .tuple #[.agg #[.map (some (w.heap.size + 1 + 1)), .map (some (w.heap.size + 1 + 1 + 1)), .slice h1.a h1.len h1.cap, .slice h2.a h2.len h2.cap], .bool false]) ?_ rfl ?_
        · exact results_two5 rfl _ _ (w.heap.size + 1) 68 #[.map (some (w.heap.size + 1 + 1)), .map (some (w.heap.size + 1 + 1 + 1)), .slice h1.a h1.len h1.cap, .slice h2.a h2.len h2.cap] (0, 0) _ (.bool false) rfl rfl (unhide HF) Tryz.underlying68 rfl (by kernel_rfl)
        · exact ⟨⟨_, _, h1, h2, false, l, rfl, ⟨fun h => (by cases h), fun h => absurd h (unhide no)⟩, rfl, unhide HT, by omega, fun h => (by cases h)⟩, bRow (unhide PH9).b (by omega) _⟩
      by_cases g5 : (pl.length : Int) ≤ 10 ∧ ∀ p ∈ pl, GAp ns p.t
      case neg =>
        have no : Hid (¬ G) := hide (fun g => g5 ((unhide DD).1 g).2.2.1)
        refine wp_region_held_drew (S := fun w' => RowIs w' (w.heap.size) #[.slice h0.a h0.len h0.cap, .slice h1.a h1.len h1.cap, .slice h2.a h2.len h2.cap] 38 ∧ RowIs w' (w.heap.size + 1 + 1 + 1 + 1) #[.map (some (w.heap.size + 1 + 1)), .map (some (w.heap.size + 1 + 1 + 1)), .slice h1.a h1.len h1.cap, .slice h2.a h2.len h2.cap] 68 ∧ ∃ C : Array Value, RowIs w' (w.heap.size + 1) C 68 ∧ C.size = 4) (by kernel_rfl) ⟨(unhide P0).s, (unhide P0).x, _, (unhide P0).o, rfl⟩ (fun hHeld => ?_)
        refine takeD (i := 0) (v := .agg #[.map (some (w.heap.size + 1 + 1)), .map (some (w.heap.size + 1 + 1 + 1)), .slice h1.a h1.len h1.cap, .slice h2.a h2.len h2.cap]) (d := some 42) rfl (by kernel_rfl) (by kernel_rfl) (by kernel_rfl) (by kernel_rfl) (fun _ _ _ h => h) (yields_row (by kernel_rfl) 68 _ rfl (w.heap.size + 1 + 1 + 1 + 1) rfl 68 _ _ (fun w h => h.2.1) Tryz.underlying68 rfl (by kernel_rfl)) (by assumption) ?_
        try simp only [Act.put, List.setIfInBounds_toArray, List.set_cons_zero, List.set_cons_succ]
        refine takeD (i := 1) (v := .pointer (some ⟨w.heap.size, 0, none⟩)) (d := some 43) rfl (by kernel_rfl) (by kernel_rfl) (by kernel_rfl) (by kernel_rfl) (fun _ _ _ h => h) (.inl ⟨by kernel_rfl, fun w hSw => ?_⟩) (by assumption) ?_
        · go_simp
        try simp only [Act.put, List.setIfInBounds_toArray, List.set_cons_zero, List.set_cons_succ]
        refine takeD (i := 2) (v := .slice h0.a h0.len h0.cap) (d := some 44) rfl (by kernel_rfl) (by kernel_rfl) (by kernel_rfl) (by kernel_rfl) (fun _ _ _ h => h) (.inl ⟨by kernel_rfl, fun w hSw => ?_⟩) (by assumption) ?_
        · have c := hSw.1.at (o := 0) (v := .slice h0.a h0.len h0.cap) rfl
          go_simp
        try simp only [Act.put, List.setIfInBounds_toArray, List.set_cons_zero, List.set_cons_succ]
        refine takeD (i := 3) (v := .func (.func 83) #[] #[.pointer (some ⟨w.heap.size + 1 + 1 + 1 + 1, 0, none⟩)]) (d := some 45) rfl (by kernel_rfl) (by kernel_rfl) (by kernel_rfl) (by kernel_rfl) (fun _ _ _ h => h) (.inl ⟨by kernel_rfl, fun w hSw => ?_⟩) (by assumption) ?_
        · go_simp
        try simp only [Act.put, List.setIfInBounds_toArray, List.set_cons_zero, List.set_cons_succ]
        refine wpAnyH_ready (rs := [4]) (by kernel_rfl) (by simp) ?_
        refine AllReadyH.cons (by rfl) (fun K hK => ?_) AllReadyH.nil
        go_simp
        refine (callsT5 (unhide q3 _ (Below.refl _ _).drew) g3).mono ?_
        rintro r_ w4 ⟨rfl, hb4⟩
        replace hb4 := undrew hb4
        have P4 := (unhide P0).keep hb4
        have K4 := hide ((unhide KTW).keep hb4)
        have HB4 := hide hb4
        clear hb4
        try dsimp only
        refine hK.out _ _ ⟨P4.s, P4.x, _, P4.o, rfl⟩ (fun hHeld4 => ?_)
        have PH4 := hide P4
        clear hK K hHeld P4
        try simp only [Act.put, List.setIfInBounds_toArray, List.set_cons_zero, List.set_cons_succ]
        refine takeD (i := 5) (v := .bool true) (d := some 47) rfl (by kernel_rfl) (by kernel_rfl) (by kernel_rfl) (by kernel_rfl) (fun _ _ _ h => h) (.inl ⟨by kernel_rfl, fun w hSw => ?_⟩) (by assumption) ?_
        · go_simp
        try simp only [Act.put, List.setIfInBounds_toArray, List.set_cons_zero, List.set_cons_succ]
        refine takeD (i := 6) (v := .agg #[.map (some (w.heap.size + 1 + 1)), .map (some (w.heap.size + 1 + 1 + 1)), .slice h1.a h1.len h1.cap, .slice h2.a h2.len h2.cap]) (d := some 48) rfl (by kernel_rfl) (by kernel_rfl) (by kernel_rfl) (by kernel_rfl) (fun _ _ _ h => h) (yields_row (by kernel_rfl) 68 _ rfl (w.heap.size + 1 + 1 + 1 + 1) rfl 68 _ _ (fun w h => h.2.1) Tryz.underlying68 rfl (by kernel_rfl)) (by assumption) ?_
        try simp only [Act.put, List.setIfInBounds_toArray, List.set_cons_zero, List.set_cons_succ]
        refine takeD (i := 7) (v := .pointer (some ⟨w.heap.size, 0, none⟩)) (d := some 49) rfl (by kernel_rfl) (by kernel_rfl) (by kernel_rfl) (by kernel_rfl) (fun _ _ _ h => h) (.inl ⟨by kernel_rfl, fun w hSw => ?_⟩) (by assumption) ?_
        · go_simp
        try simp only [Act.put, List.setIfInBounds_toArray, List.set_cons_zero, List.set_cons_succ]
        refine takeD (i := 8) (v := .slice h0.a h0.len h0.cap) (d := some 50) rfl (by kernel_rfl) (by kernel_rfl) (by kernel_rfl) (by kernel_rfl) (fun _ _ _ h => h) (.inl ⟨by kernel_rfl, fun w hSw => ?_⟩) (by assumption) ?_
        · have c := hSw.1.at (o := 0) (v := .slice h0.a h0.len h0.cap) rfl
          go_simp
        try simp only [Act.put, List.setIfInBounds_toArray, List.set_cons_zero, List.set_cons_succ]
        refine wpAnyH_ready (rs := [9]) (by kernel_rfl) (by simp) ?_
        refine AllReadyH.cons (by rfl) (fun K hK => ?_) AllReadyH.nil
        go_simp
        refine (unhide q4 _ (unhide HB4) (unhide H2) g3).mono ?_
        rintro r_ w9 ⟨⟨v9, rfl, hv9, hj9⟩, hg9⟩
        obtain rfl : v9 = true := hv9.2 g4
        have P9 := (unhide PH4).grown hg9 (.inl rfl)
        have K9 := hide ((unhide K4).kept hg9 (fun e => by have := Option.some.inj e; omega))
        have J9 := hide (hj9 rfl)
        clear hv9 hj9 hg9
        try dsimp only
        refine hK.out _ _ ⟨P9.s, P9.x, _, P9.o, rfl⟩ (fun hHeld9 => ?_)
        have PH9 := hide P9
        clear hK K hHeld4 P9
        try simp only [Act.put, List.setIfInBounds_toArray, List.set_cons_zero, List.set_cons_succ]
        refine takeD (i := 10) (v := .bool true) (d := some 52) rfl (by kernel_rfl) (by kernel_rfl) (by kernel_rfl) (by kernel_rfl) (fun _ _ _ h => h) (.inl ⟨by kernel_rfl, fun w hSw => ?_⟩) (by assumption) ?_
        · go_simp
        try simp only [Act.put, List.setIfInBounds_toArray, List.set_cons_zero, List.set_cons_succ]
        refine takeD (i := 11) (v := .bool true) (d := some 53) rfl (by kernel_rfl) (by kernel_rfl) (by kernel_rfl) (by kernel_rfl) (fun _ _ _ h => h) (.inl ⟨by kernel_rfl, fun w hSw => ?_⟩) (by assumption) ?_
        · go_simp
        try simp only [Act.put, List.setIfInBounds_toArray, List.set_cons_zero, List.set_cons_succ]
        refine takeD (i := 12) (v := .pointer (some ⟨w.heap.size, 1, none⟩)) (d := some 54) rfl (by kernel_rfl) (by kernel_rfl) (by kernel_rfl) (by kernel_rfl) (fun _ _ _ h => h) (.inl ⟨by kernel_rfl, fun w hSw => ?_⟩) (by assumption) ?_
        · go_simp
        try simp only [Act.put, List.setIfInBounds_toArray, List.set_cons_zero, List.set_cons_succ]
        refine takeD (i := 13) (v := .slice h1.a h1.len h1.cap) (d := some 55) rfl (by kernel_rfl) (by kernel_rfl) (by kernel_rfl) (by kernel_rfl) (fun _ _ _ h => h) (.inl ⟨by kernel_rfl, fun w hSw => ?_⟩) (by assumption) ?_
        · have c := hSw.1.at (o := 1) (v := .slice h1.a h1.len h1.cap) rfl
          go_simp
        try simp only [Act.put, List.setIfInBounds_toArray, List.set_cons_zero, List.set_cons_succ]
        refine takeD (i := 14) (v := .agg #[.map (some (w.heap.size + 1 + 1)), .map (some (w.heap.size + 1 + 1 + 1)), .slice h1.a h1.len h1.cap, .slice h2.a h2.len h2.cap]) (d := some 56) rfl (by kernel_rfl) (by kernel_rfl) (by kernel_rfl) (by kernel_rfl) (fun _ _ _ h => h) (yields_row (by kernel_rfl) 68 _ rfl (w.heap.size + 1 + 1 + 1 + 1) rfl 68 _ _ (fun w h => h.2.1) Tryz.underlying68 rfl (by kernel_rfl)) (by assumption) ?_
        try simp only [Act.put, List.setIfInBounds_toArray, List.set_cons_zero, List.set_cons_succ]
        refine takeD (i := 15) (v := .func (.func 88) #[.agg #[.map (some (w.heap.size + 1 + 1)), .map (some (w.heap.size + 1 + 1 + 1)), .slice h1.a h1.len h1.cap, .slice h2.a h2.len h2.cap]] #[]) (d := some 57) rfl (by kernel_rfl) (by kernel_rfl) (by kernel_rfl) (by kernel_rfl) (fun _ _ _ h => h) (.inl ⟨by kernel_rfl, fun w hSw => ?_⟩) (by assumption) ?_
        · go_simp
        try simp only [Act.put, List.setIfInBounds_toArray, List.set_cons_zero, List.set_cons_succ]
        refine wpAnyH_ready (rs := [16]) (by kernel_rfl) (by simp) ?_
        refine AllReadyH.cons (by rfl) (fun K hK => ?_) AllReadyH.nil
        go_simp
        refine (callsF5 (unhide q5 _ (unhide PH9).b (unhide K9)) g5).mono ?_
        rintro r_ w16 ⟨rfl, hb16⟩
        have P16 := (unhide PH9).keep hb16
        have K16 := hide ((unhide K9).keep hb16)
        have J16 : Hid (∃ tab, JM w16 (w.heap.size + 1 + 1) l l.length tab) := hide (by obtain ⟨tab, h⟩ := unhide J9; exact ⟨tab, h.keep hb16⟩)
        clear hb16
        try dsimp only
        refine hK.out _ _ ⟨P16.s, P16.x, _, P16.o, rfl⟩ (fun hHeld16 => ?_)
        have PH16 := hide P16
        clear hK K hHeld9 P16
        try simp only [Act.put, List.setIfInBounds_toArray, List.set_cons_zero, List.set_cons_succ]
        refine takeD (i := 17) (v := .bool false) (d := some 59) rfl (by kernel_rfl) (by kernel_rfl) (by kernel_rfl) (by kernel_rfl) (fun _ _ _ h => h) (.inl ⟨by kernel_rfl, fun w hSw => ?_⟩) (by assumption) ?_
        · go_simp
        try simp only [Act.put, List.setIfInBounds_toArray, List.set_cons_zero, List.set_cons_succ]
        refine takeD (i := 18) (v := .bool false) (d := some 60) rfl (by kernel_rfl) (by kernel_rfl) (by kernel_rfl) (by kernel_rfl) (fun _ _ _ h => h) (.inl ⟨by kernel_rfl, fun w hSw => ?_⟩) (by assumption) ?_
        · go_simp
        try simp only [Act.put, List.setIfInBounds_toArray, List.set_cons_zero, List.set_cons_succ]
        refine takeD (i := 19) (v := undef) (d := some 61) rfl (by kernel_rfl) (by kernel_rfl) (by kernel_rfl) (by kernel_rfl) (fun _ _ _ h => h) (.inr ⟨by kernel_rfl, rfl⟩) (by assumption) ?_
        try simp only [Act.put, List.setIfInBounds_toArray, List.set_cons_zero, List.set_cons_succ]
        refine takeD (i := 20) (v := undef) (d := some 62) rfl (by kernel_rfl) (by kernel_rfl) (by kernel_rfl) (by kernel_rfl) (fun _ _ _ h => h) (.inr ⟨by kernel_rfl, rfl⟩) (by assumption) ?_
        try simp only [Act.put, List.setIfInBounds_toArray, List.set_cons_zero, List.set_cons_succ]
        refine takeD (i := 21) (v := undef) (d := some 63) rfl (by kernel_rfl) (by kernel_rfl) (by kernel_rfl) (by kernel_rfl) (fun _ _ _ h => h) (.inr ⟨by kernel_rfl, rfl⟩) (by assumption) ?_
        try simp only [Act.put, List.setIfInBounds_toArray, List.set_cons_zero, List.set_cons_succ]
        refine takeD (i := 22) (v := undef) (d := some 64) rfl (by kernel_rfl) (by kernel_rfl) (by kernel_rfl) (by kernel_rfl) (fun _ _ _ h => h) (.inr ⟨by kernel_rfl, rfl⟩) (by assumption) ?_
        try simp only [Act.put, List.setIfInBounds_toArray, List.set_cons_zero, List.set_cons_succ]
        refine takeD (i := 23) (v := .bool false) (d := some 65) rfl (by kernel_rfl) (by kernel_rfl) (by kernel_rfl) (by kernel_rfl) (fun _ _ _ h => h) (.inl ⟨by kernel_rfl, fun w hSw => ?_⟩) (by assumption) ?_
        · go_simp
        try simp only [Act.put, List.setIfInBounds_toArray, List.set_cons_zero, List.set_cons_succ]
        refine wpAnyH_ready (rs := [24]) (by kernel_rfl) (by simp) ?_
        refine AllReadyH.cons (by rfl) (fun K hK => ?_) AllReadyH.nil
        rw [if_pos (by kernel_rfl)]
        obtain ⟨C, hC, hCs⟩ := hHeld16.2.2
        refine wp_store_row 68 _ _ rfl (w.heap.size + 1) #[.map (some (w.heap.size + 1 + 1)), .map (some (w.heap.size + 1 + 1 + 1)), .slice h1.a h1.len h1.cap, .slice h2.a h2.len h2.cap] rfl rfl 68 C hC (by kernel_rfl) hCs (by simp [Value.oneCell']) ?_
        have F : RowIs (World.setRow w16 (w.heap.size + 1) #[.map (some (w.heap.size + 1 + 1)), .map (some (w.heap.size + 1 + 1 + 1)), .slice h1.a h1.len h1.cap, .slice h2.a h2.len h2.cap]) (w.heap.size + 1) #[.map (some (w.heap.size + 1 + 1)), .map (some (w.heap.size + 1 + 1 + 1)), .slice h1.a h1.len h1.cap, .slice h2.a h2.len h2.cap] 68 := setRow_heap _ _ _ _ _ _ hC
        have FS : RowIs (World.setRow w16 (w.heap.size + 1) #[.map (some (w.heap.size + 1 + 1)), .map (some (w.heap.size + 1 + 1 + 1)), .slice h1.a h1.len h1.cap, .slice h2.a h2.len h2.cap]) (w.heap.size) #[.slice h0.a h0.len h0.cap, .slice h1.a h1.len h1.cap, .slice h2.a h2.len h2.cap] 38 := by unfold RowIs; rw [setRow_other _ _ _ _ (by omega)]; exact hHeld16.1
        have FX : RowIs (World.setRow w16 (w.heap.size + 1) #[.map (some (w.heap.size + 1 + 1)), .map (some (w.heap.size + 1 + 1 + 1)), .slice h1.a h1.len h1.cap, .slice h2.a h2.len h2.cap]) (w.heap.size + 1 + 1 + 1 + 1) #[.map (some (w.heap.size + 1 + 1)), .map (some (w.heap.size + 1 + 1 + 1)), .slice h1.a h1.len h1.cap, .slice h2.a h2.len h2.cap] 68 := by unfold RowIs; rw [setRow_other _ _ _ _ (by omega)]; exact hHeld16.2.1
        refine hK.out _ _ ⟨FS, FX, _, F, rfl⟩ (fun hHeldZ => ?_)
        have HF := hide F
        clear hK K hC hCs F FS FX hHeld16
        try simp only [Act.put, List.setIfInBounds_toArray, List.set_cons_zero, List.set_cons_succ]
        refine takeD (i := 25) (v := .bool false) (d := some 3) rfl (by kernel_rfl) (by kernel_rfl) (by kernel_rfl) (by kernel_rfl) (fun _ _ _ h => h) (.inl ⟨by kernel_rfl, fun w hSw => ?_⟩) (by assumption) ?_
        · go_simp
        try simp only [Act.put, List.setIfInBounds_toArray, List.set_cons_zero, List.set_cons_succ]
        refine wpAnyH_done (by kernel_rfl) ?_ _
        clear hHeldZ
        go_wp2_with fail
        refine bodyPost_ret (v := .tuple #[.agg #[.map (some (w.heap.size + 1 + 1)), .map (some (w.heap.size + 1 + 1 + 1)), .slice h1.a h1.len h1.cap, .slice h2.a h2.len h2.cap], .bool false]) ?_ rfl ?_
        · exact results_two5 rfl _ _ (w.heap.size + 1) 68 #[.map (some (w.heap.size + 1 + 1)), .map (some (w.heap.size + 1 + 1 + 1)), .slice h1.a h1.len h1.cap, .slice h2.a h2.len h2.cap] (0, 0) _ (.bool false) rfl rfl (unhide HF) Tryz.underlying68 rfl (by kernel_rfl)
        · exact ⟨⟨_, _, h1, h2, false, l, rfl, ⟨fun h => (by cases h), fun h => absurd h (unhide no)⟩, rfl, unhide HT, by omega, fun h => (by cases h)⟩, bRow (unhide PH16).b (by omega) _⟩
      have YD : Hid (AllR ns gs ↔ G) := hide ⟨fun h => (unhide DD).2 ⟨g3, g4, g5, h⟩, fun h => ((unhide DD).1 h).2.2.2⟩
      refine wp_region_held_drew (S := fun w' => RowIs w' (w.heap.size) #[.slice h0.a h0.len h0.cap, .slice h1.a h1.len h1.cap, .slice h2.a h2.len h2.cap] 38 ∧ RowIs w' (w.heap.size + 1 + 1 + 1 + 1) #[.map (some (w.heap.size + 1 + 1)), .map (some (w.heap.size + 1 + 1 + 1)), .slice h1.a h1.len h1.cap, .slice h2.a h2.len h2.cap] 68 ∧ ∃ C : Array Value, RowIs w' (w.heap.size + 1) C 68 ∧ C.size = 4) (by kernel_rfl) ⟨(unhide P0).s, (unhide P0).x, _, (unhide P0).o, rfl⟩ (fun hHeld => ?_)
      refine takeD (i := 0) (v := .agg #[.map (some (w.heap.size + 1 + 1)), .map (some (w.heap.size + 1 + 1 + 1)), .slice h1.a h1.len h1.cap, .slice h2.a h2.len h2.cap]) (d := some 42) rfl (by kernel_rfl) (by kernel_rfl) (by kernel_rfl) (by kernel_rfl) (fun _ _ _ h => h) (yields_row (by kernel_rfl) 68 _ rfl (w.heap.size + 1 + 1 + 1 + 1) rfl 68 _ _ (fun w h => h.2.1) Tryz.underlying68 rfl (by kernel_rfl)) (by assumption) ?_
      try simp only [Act.put, List.setIfInBounds_toArray, List.set_cons_zero, List.set_cons_succ]
      refine takeD (i := 1) (v := .pointer (some ⟨w.heap.size, 0, none⟩)) (d := some 43) rfl (by kernel_rfl) (by kernel_rfl) (by kernel_rfl) (by kernel_rfl) (fun _ _ _ h => h) (.inl ⟨by kernel_rfl, fun w hSw => ?_⟩) (by assumption) ?_
      · go_simp
      try simp only [Act.put, List.setIfInBounds_toArray, List.set_cons_zero, List.set_cons_succ]
      refine takeD (i := 2) (v := .slice h0.a h0.len h0.cap) (d := some 44) rfl (by kernel_rfl) (by kernel_rfl) (by kernel_rfl) (by kernel_rfl) (fun _ _ _ h => h) (.inl ⟨by kernel_rfl, fun w hSw => ?_⟩) (by assumption) ?_
      · have c := hSw.1.at (o := 0) (v := .slice h0.a h0.len h0.cap) rfl
        go_simp
      try simp only [Act.put, List.setIfInBounds_toArray, List.set_cons_zero, List.set_cons_succ]
      refine takeD (i := 3) (v := .func (.func 83) #[] #[.pointer (some ⟨w.heap.size + 1 + 1 + 1 + 1, 0, none⟩)]) (d := some 45) rfl (by kernel_rfl) (by kernel_rfl) (by kernel_rfl) (by kernel_rfl) (fun _ _ _ h => h) (.inl ⟨by kernel_rfl, fun w hSw => ?_⟩) (by assumption) ?_
      · go_simp
      try simp only [Act.put, List.setIfInBounds_toArray, List.set_cons_zero, List.set_cons_succ]
      refine wpAnyH_ready (rs := [4]) (by kernel_rfl) (by simp) ?_
      refine AllReadyH.cons (by rfl) (fun K hK => ?_) AllReadyH.nil
      go_simp
      refine (callsT5 (unhide q3 _ (Below.refl _ _).drew) g3).mono ?_
      rintro r_ w4 ⟨rfl, hb4⟩
      replace hb4 := undrew hb4
      have P4 := (unhide P0).keep hb4
      have K4 := hide ((unhide KTW).keep hb4)
      have HB4 := hide hb4
      clear hb4
      try dsimp only
      refine hK.out _ _ ⟨P4.s, P4.x, _, P4.o, rfl⟩ (fun hHeld4 => ?_)
      have PH4 := hide P4
      clear hK K hHeld P4
      try simp only [Act.put, List.setIfInBounds_toArray, List.set_cons_zero, List.set_cons_succ]
      refine takeD (i := 5) (v := .bool true) (d := some 47) rfl (by kernel_rfl) (by kernel_rfl) (by kernel_rfl) (by kernel_rfl) (fun _ _ _ h => h) (.inl ⟨by kernel_rfl, fun w hSw => ?_⟩) (by assumption) ?_
      · go_simp
      try simp only [Act.put, List.setIfInBounds_toArray, List.set_cons_zero, List.set_cons_succ]
      refine takeD (i := 6) (v := .agg #[.map (some (w.heap.size + 1 + 1)), .map (some (w.heap.size + 1 + 1 + 1)), .slice h1.a h1.len h1.cap, .slice h2.a h2.len h2.cap]) (d := some 48) rfl (by kernel_rfl) (by kernel_rfl) (by kernel_rfl) (by kernel_rfl) (fun _ _ _ h => h) (yields_row (by kernel_rfl) 68 _ rfl (w.heap.size + 1 + 1 + 1 + 1) rfl 68 _ _ (fun w h => h.2.1) Tryz.underlying68 rfl (by kernel_rfl)) (by assumption) ?_
      try simp only [Act.put, List.setIfInBounds_toArray, List.set_cons_zero, List.set_cons_succ]
      refine takeD (i := 7) (v := .pointer (some ⟨w.heap.size, 0, none⟩)) (d := some 49) rfl (by kernel_rfl) (by kernel_rfl) (by kernel_rfl) (by kernel_rfl) (fun _ _ _ h => h) (.inl ⟨by kernel_rfl, fun w hSw => ?_⟩) (by assumption) ?_
      · go_simp
      try simp only [Act.put, List.setIfInBounds_toArray, List.set_cons_zero, List.set_cons_succ]
      refine takeD (i := 8) (v := .slice h0.a h0.len h0.cap) (d := some 50) rfl (by kernel_rfl) (by kernel_rfl) (by kernel_rfl) (by kernel_rfl) (fun _ _ _ h => h) (.inl ⟨by kernel_rfl, fun w hSw => ?_⟩) (by assumption) ?_
      · have c := hSw.1.at (o := 0) (v := .slice h0.a h0.len h0.cap) rfl
        go_simp
      try simp only [Act.put, List.setIfInBounds_toArray, List.set_cons_zero, List.set_cons_succ]
      refine wpAnyH_ready (rs := [9]) (by kernel_rfl) (by simp) ?_
      refine AllReadyH.cons (by rfl) (fun K hK => ?_) AllReadyH.nil
      go_simp
      refine (unhide q4 _ (unhide HB4) (unhide H2) g3).mono ?_
      rintro r_ w9 ⟨⟨v9, rfl, hv9, hj9⟩, hg9⟩
      obtain rfl : v9 = true := hv9.2 g4
      have P9 := (unhide PH4).grown hg9 (.inl rfl)
      have K9 := hide ((unhide K4).kept hg9 (fun e => by have := Option.some.inj e; omega))
      have J9 := hide (hj9 rfl)
      clear hv9 hj9 hg9
      try dsimp only
      refine hK.out _ _ ⟨P9.s, P9.x, _, P9.o, rfl⟩ (fun hHeld9 => ?_)
      have PH9 := hide P9
      clear hK K hHeld4 P9
      try simp only [Act.put, List.setIfInBounds_toArray, List.set_cons_zero, List.set_cons_succ]
      refine takeD (i := 10) (v := .bool true) (d := some 52) rfl (by kernel_rfl) (by kernel_rfl) (by kernel_rfl) (by kernel_rfl) (fun _ _ _ h => h) (.inl ⟨by kernel_rfl, fun w hSw => ?_⟩) (by assumption) ?_
      · go_simp
      try simp only [Act.put, List.setIfInBounds_toArray, List.set_cons_zero, List.set_cons_succ]
      refine takeD (i := 11) (v := .bool true) (d := some 53) rfl (by kernel_rfl) (by kernel_rfl) (by kernel_rfl) (by kernel_rfl) (fun _ _ _ h => h) (.inl ⟨by kernel_rfl, fun w hSw => ?_⟩) (by assumption) ?_
      · go_simp
      try simp only [Act.put, List.setIfInBounds_toArray, List.set_cons_zero, List.set_cons_succ]
      refine takeD (i := 12) (v := .pointer (some ⟨w.heap.size, 1, none⟩)) (d := some 54) rfl (by kernel_rfl) (by kernel_rfl) (by kernel_rfl) (by kernel_rfl) (fun _ _ _ h => h) (.inl ⟨by kernel_rfl, fun w hSw => ?_⟩) (by assumption) ?_
      · go_simp
      try simp only [Act.put, List.setIfInBounds_toArray, List.set_cons_zero, List.set_cons_succ]
      refine takeD (i := 13) (v := .slice h1.a h1.len h1.cap) (d := some 55) rfl (by kernel_rfl) (by kernel_rfl) (by kernel_rfl) (by kernel_rfl) (fun _ _ _ h => h) (.inl ⟨by kernel_rfl, fun w hSw => ?_⟩) (by assumption) ?_
      · have c := hSw.1.at (o := 1) (v := .slice h1.a h1.len h1.cap) rfl
        go_simp
      try simp only [Act.put, List.setIfInBounds_toArray, List.set_cons_zero, List.set_cons_succ]
      refine takeD (i := 14) (v := .agg #[.map (some (w.heap.size + 1 + 1)), .map (some (w.heap.size + 1 + 1 + 1)), .slice h1.a h1.len h1.cap, .slice h2.a h2.len h2.cap]) (d := some 56) rfl (by kernel_rfl) (by kernel_rfl) (by kernel_rfl) (by kernel_rfl) (fun _ _ _ h => h) (yields_row (by kernel_rfl) 68 _ rfl (w.heap.size + 1 + 1 + 1 + 1) rfl 68 _ _ (fun w h => h.2.1) Tryz.underlying68 rfl (by kernel_rfl)) (by assumption) ?_
      try simp only [Act.put, List.setIfInBounds_toArray, List.set_cons_zero, List.set_cons_succ]
      refine takeD (i := 15) (v := .func (.func 88) #[.agg #[.map (some (w.heap.size + 1 + 1)), .map (some (w.heap.size + 1 + 1 + 1)), .slice h1.a h1.len h1.cap, .slice h2.a h2.len h2.cap]] #[]) (d := some 57) rfl (by kernel_rfl) (by kernel_rfl) (by kernel_rfl) (by kernel_rfl) (fun _ _ _ h => h) (.inl ⟨by kernel_rfl, fun w hSw => ?_⟩) (by assumption) ?_
      · go_simp
      try simp only [Act.put, List.setIfInBounds_toArray, List.set_cons_zero, List.set_cons_succ]
      refine wpAnyH_ready (rs := [16]) (by kernel_rfl) (by simp) ?_
      refine AllReadyH.cons (by rfl) (fun K hK => ?_) AllReadyH.nil
      go_simp
      refine (callsT5 (unhide q5 _ (unhide PH9).b (unhide K9)) g5).mono ?_
      rintro r_ w16 ⟨rfl, hb16⟩
      have P16 := (unhide PH9).keep hb16
      have K16 := hide ((unhide K9).keep hb16)
      have J16 : Hid (∃ tab, JM w16 (w.heap.size + 1 + 1) l l.length tab) := hide (by obtain ⟨tab, h⟩ := unhide J9; exact ⟨tab, h.keep hb16⟩)
      clear hb16
      try dsimp only
      refine hK.out _ _ ⟨P16.s, P16.x, _, P16.o, rfl⟩ (fun hHeld16 => ?_)
      have PH16 := hide P16
      clear hK K hHeld9 P16
      try simp only [Act.put, List.setIfInBounds_toArray, List.set_cons_zero, List.set_cons_succ]
      refine takeD (i := 17) (v := .bool true) (d := some 59) rfl (by kernel_rfl) (by kernel_rfl) (by kernel_rfl) (by kernel_rfl) (fun _ _ _ h => h) (.inl ⟨by kernel_rfl, fun w hSw => ?_⟩) (by assumption) ?_
      · go_simp
      try simp only [Act.put, List.setIfInBounds_toArray, List.set_cons_zero, List.set_cons_succ]
      refine takeD (i := 18) (v := .bool true) (d := some 60) rfl (by kernel_rfl) (by kernel_rfl) (by kernel_rfl) (by kernel_rfl) (fun _ _ _ h => h) (.inl ⟨by kernel_rfl, fun w hSw => ?_⟩) (by assumption) ?_
      · go_simp
      try simp only [Act.put, List.setIfInBounds_toArray, List.set_cons_zero, List.set_cons_succ]
      refine takeD (i := 19) (v := .agg #[.map (some (w.heap.size + 1 + 1)), .map (some (w.heap.size + 1 + 1 + 1)), .slice h1.a h1.len h1.cap, .slice h2.a h2.len h2.cap]) (d := some 61) rfl (by kernel_rfl) (by kernel_rfl) (by kernel_rfl) (by kernel_rfl) (fun _ _ _ h => h) (yields_row (by kernel_rfl) 68 _ rfl (w.heap.size + 1 + 1 + 1 + 1) rfl 68 _ _ (fun w h => h.2.1) Tryz.underlying68 rfl (by kernel_rfl)) (by assumption) ?_
      try simp only [Act.put, List.setIfInBounds_toArray, List.set_cons_zero, List.set_cons_succ]
      refine takeD (i := 20) (v := .pointer (some ⟨w.heap.size, 2, none⟩)) (d := some 62) rfl (by kernel_rfl) (by kernel_rfl) (by kernel_rfl) (by kernel_rfl) (fun _ _ _ h => h) (.inl ⟨by kernel_rfl, fun w hSw => ?_⟩) (by assumption) ?_
      · go_simp
      try simp only [Act.put, List.setIfInBounds_toArray, List.set_cons_zero, List.set_cons_succ]
      refine takeD (i := 21) (v := .slice h2.a h2.len h2.cap) (d := some 63) rfl (by kernel_rfl) (by kernel_rfl) (by kernel_rfl) (by kernel_rfl) (fun _ _ _ h => h) (.inl ⟨by kernel_rfl, fun w hSw => ?_⟩) (by assumption) ?_
      · have c := hSw.1.at (o := 2) (v := .slice h2.a h2.len h2.cap) rfl
        go_simp
      try simp only [Act.put, List.setIfInBounds_toArray, List.set_cons_zero, List.set_cons_succ]
      refine wpAnyH_ready (rs := [22]) (by kernel_rfl) (by simp) ?_
      refine AllReadyH.cons (by rfl) (fun K hK => ?_) AllReadyH.nil
      go_simp
      refine (unhide q6 _ (unhide PH16).b (unhide K16)).mono ?_
      rintro r_ w22 ⟨⟨v, rfl, hv⟩, hb22⟩
      have P22 := (unhide PH16).keep hb22
      have J22 : Hid (∃ tab, JM w22 (w.heap.size + 1 + 1) l l.length tab) := hide (by obtain ⟨tab, h⟩ := unhide J16; exact ⟨tab, h.keep hb22⟩)
      have HV := hide hv
      clear hb22 hv
      try dsimp only
      refine hK.out _ _ ⟨P22.s, P22.x, _, P22.o, rfl⟩ (fun hHeld22 => ?_)
      have PH22 := hide P22
      clear hK K hHeld16 P22
      try simp only [Act.put, List.setIfInBounds_toArray, List.set_cons_zero, List.set_cons_succ]
      refine takeD (i := 23) (v := .bool v) (d := some 65) rfl (by kernel_rfl) (by kernel_rfl) (by kernel_rfl) (by kernel_rfl) (fun _ _ _ h => h) (.inl ⟨by kernel_rfl, fun w hSw => ?_⟩) (by assumption) ?_
      · go_simp
      try simp only [Act.put, List.setIfInBounds_toArray, List.set_cons_zero, List.set_cons_succ]
      refine wpAnyH_ready (rs := [24]) (by kernel_rfl) (by simp) ?_
      refine AllReadyH.cons (by rfl) (fun K hK => ?_) AllReadyH.nil
      rw [if_pos (by kernel_rfl)]
      obtain ⟨C, hC, hCs⟩ := hHeld22.2.2
      refine wp_store_row 68 _ _ rfl (w.heap.size + 1) #[.map (some (w.heap.size + 1 + 1)), .map (some (w.heap.size + 1 + 1 + 1)), .slice h1.a h1.len h1.cap, .slice h2.a h2.len h2.cap] rfl rfl 68 C hC (by kernel_rfl) hCs (by simp [Value.oneCell']) ?_
      have F : RowIs (World.setRow w22 (w.heap.size + 1) #[.map (some (w.heap.size + 1 + 1)), .map (some (w.heap.size + 1 + 1 + 1)), .slice h1.a h1.len h1.cap, .slice h2.a h2.len h2.cap]) (w.heap.size + 1) #[.map (some (w.heap.size + 1 + 1)), .map (some (w.heap.size + 1 + 1 + 1)), .slice h1.a h1.len h1.cap, .slice h2.a h2.len h2.cap] 68 := setRow_heap _ _ _ _ _ _ hC
      have FS : RowIs (World.setRow w22 (w.heap.size + 1) #[.map (some (w.heap.size + 1 + 1)), .map (some (w.heap.size + 1 + 1 + 1)), .slice h1.a h1.len h1.cap, .slice h2.a h2.len h2.cap]) (w.heap.size) #[.slice h0.a h0.len h0.cap, .slice h1.a h1.len h1.cap, .slice h2.a h2.len h2.cap] 38 := by unfold RowIs; rw [setRow_other _ _ _ _ (by omega)]; exact hHeld22.1
      have FX : RowIs (World.setRow w22 (w.heap.size + 1) #[.map (some (w.heap.size + 1 + 1)), .map (some (w.heap.size + 1 + 1 + 1)), .slice h1.a h1.len h1.cap, .slice h2.a h2.len h2.cap]) (w.heap.size + 1 + 1 + 1 + 1) #[.map (some (w.heap.size + 1 + 1)), .map (some (w.heap.size + 1 + 1 + 1)), .slice h1.a h1.len h1.cap, .slice h2.a h2.len h2.cap] 68 := by unfold RowIs; rw [setRow_other _ _ _ _ (by omega)]; exact hHeld22.2.1
      refine hK.out _ _ ⟨FS, FX, _, F, rfl⟩ (fun hHeldZ => ?_)
      have HF := hide F
      clear hK K hC hCs F FS FX hHeld22
      try simp only [Act.put, List.setIfInBounds_toArray, List.set_cons_zero, List.set_cons_succ]
      refine takeD (i := 25) (v := .bool v) (d := some 3) rfl (by kernel_rfl) (by kernel_rfl) (by kernel_rfl) (by kernel_rfl) (fun _ _ _ h => h) (.inl ⟨by kernel_rfl, fun w hSw => ?_⟩) (by assumption) ?_
      · go_simp
      try simp only [Act.put, List.setIfInBounds_toArray, List.set_cons_zero, List.set_cons_succ]
      refine wpAnyH_done (by kernel_rfl) ?_ _
      clear hHeldZ
      go_wp2_with fail
      refine bodyPost_ret (v := .tuple #[.agg #[.map (some (w.heap.size + 1 + 1)), .map (some (w.heap.size + 1 + 1 + 1)), .slice h1.a h1.len h1.cap, .slice h2.a h2.len h2.cap], .bool v]) ?_ rfl ?_
      · exact results_two5 rfl _ _ (w.heap.size + 1) 68 #[.map (some (w.heap.size + 1 + 1)), .map (some (w.heap.size + 1 + 1 + 1)), .slice h1.a h1.len h1.cap, .slice h2.a h2.len h2.cap] (0, 0) _ (.bool v) rfl rfl (unhide HF) Tryz.underlying68 rfl (by kernel_rfl)
      · exact ⟨⟨_, _, h1, h2, v, l, rfl, (unhide HV).trans (unhide YD), rfl, unhide HT, by omega, fun _ => (by obtain ⟨tab, h⟩ := unhide J22; exact ⟨tab, h.rowS (by omega)⟩)⟩, bRow (unhide PH22).b (by omega) _⟩
end Go.Proofs.YtfbncneeimikcaaGreat.V
/- Ids: impl.isId, spec.l7Id. -/
namespace Go.Proofs.YtfbncneeimikcaaGreat
open Go.RowKit
set_option maxRecDepth 20000

def idcB (c : UInt8) : Bool := namB (c.toNat : Int) || digB (c.toNat : Int) || !((c.toNat : Int) != 45) || !((c.toNat : Int) != 46)
def idB (s : ByteArray) : Bool := decide (1 ≤ s.size ∧ s.size ≤ 40) && s.data.toList.all idcB
theorem nam_let (n : Int) : namB n = (letB n || !(n != 95)) := by
  rw [Bool.eq_iff_iff]
  simp [namB, letB]
theorem idB_size {s : ByteArray} (h : s.size < 1 ∨ 40 < s.size) : idB s = false := by
  unfold idB
  rw [decide_eq_false (by omega)]; rfl
theorem idB_of {s : ByteArray} (h1 : 1 ≤ s.size) (h2 : s.size ≤ 40) : idB s = s.data.toList.all idcB := by
  unfold idB
  rw [decide_eq_true (by omega)]; rfl

end Go.Proofs.YtfbncneeimikcaaGreat
