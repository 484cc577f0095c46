/- FRb, FRl, one behind the other. -/
import Derived.Test.YteaidfighimoiaaGreatJ22
import Derived.Test.YteaidfighimoiaaGreatJ26
import Derived.Test.YteaidfighimoiaaGreatJ20
/- impl.fieldFirst, litAskOf. -/
namespace Go.Proofs.YteaidfighimoiaaGreat.V
open Go.RowKit Go.Maps

theorem ExAt.tag {w : World} {lo r : Nat} {t : ET} {v : Value} (h : ExAt w lo r t v) (hf : Fit t) : ∃ u, (t.n.f0 = 1 ∧ v = .iface 76 u) ∨ (t.n.f0 = 2 ∧ v = .iface 119 u) ∨ (t.n.f0 = 3 ∧ v = .iface 112 u) ∨ (t.n.f0 = 4 ∧ v = .iface 78 u) ∨ ((t.n.f0 = 5 ∨ t.n.f0 = 20 ∨ t.n.f0 = 21) ∧ v = .iface 81 u) ∨ ((t.n.f0 = 6 ∨ t.n.f0 = 7) ∧ v = .iface 83 u) ∨ (t.n.f0 = 10 ∧ v = .iface 93 u) ∨ ((8 ≤ t.n.f0 ∧ t.n.f0 ≤ 19 ∧ t.n.f0 ≠ 10) ∧ v = .iface 85 u) := by
  cases r with
  | zero => cases t; exact h.elim
  | succ r =>
    cases t with
    | node x ks =>
      simp only [ET.n]
      rcases h.view hf with ⟨h1, e⟩ | ⟨h1, sv, e⟩ | ⟨h1, e⟩ | ⟨h1, k0, v0, _, _, e⟩ | ⟨h1, k0, v0, _, _, e⟩ | ⟨h1, k0, v0, _, _, e⟩ | ⟨h1, k0, k1, k2, v0, v1, v2, _, _, _, _, e⟩ | ⟨h1, k0, k1, v0, v1, _, _, _, e⟩
      · exact ⟨_, .inl ⟨h1, e⟩⟩
      · exact ⟨_, .inr (.inl ⟨h1, e⟩)⟩
      · exact ⟨_, .inr (.inr (.inl ⟨h1, e⟩))⟩
      · exact ⟨_, .inr (.inr (.inr (.inl ⟨h1, e⟩)))⟩
      · exact ⟨_, .inr (.inr (.inr (.inr (.inl ⟨h1, e⟩))))⟩
      · exact ⟨_, .inr (.inr (.inr (.inr (.inr (.inl ⟨h1, e⟩)))))⟩
      · exact ⟨_, .inr (.inr (.inr (.inr (.inr (.inr (.inl ⟨h1, e⟩))))))⟩
      · exact ⟨_, .inr (.inr (.inr (.inr (.inr (.inr (.inr (⟨h1, e⟩)))))))⟩
theorem ExAt.iface {w : World} {lo r : Nat} {t : ET} {v : Value} (h : ExAt w lo r t v) (hf : Fit t) : ∃ T u, v = .iface T u := by
  obtain ⟨u, h⟩ := h.tag hf
  rcases h with ⟨_, e⟩ | ⟨_, e⟩ | ⟨_, e⟩ | ⟨_, e⟩ | ⟨_, e⟩ | ⟨_, e⟩ | ⟨_, e⟩ | ⟨_, e⟩
  all_goals exact ⟨_, _, e⟩
/-- What a tree's value is, as far as litAskOf looks. -/
theorem ExAt.deep {w : World} {lo r : Nat} {t : ET} {v : Value} (h : ExAt w lo r t v) (hf : Fit t) :
    (t.n.f0 = 1 ∧ v = .iface 76 (.agg #[.int .i64 t.n.f2, .int .i64 t.n.f3, .string t.n.f4, .string t.n.f5])) ∨ (t.n.f0 = 3 ∧ v = .iface 112 (.agg #[.string t.n.f1]))
    ∨ (t.n.f0 = 4 ∧ (t.kids.getD 0 zT).n.f0 = 3 ∧ v = .iface 78 (.agg #[.iface 112 (.agg #[.string (t.kids.getD 0 zT).n.f1]), .string t.n.f1]))
    ∨ (t.n.f0 = 4 ∧ (t.kids.getD 0 zT).n.f0 ≠ 3 ∧ ∃ T u, (T = 76 ∨ T = 78 ∨ T = 81 ∨ T = 83 ∨ T = 93 ∨ T = 85 ∨ T = 119) ∧ v = .iface 78 (.agg #[.iface T u, .string t.n.f1]))
    ∨ ((t.n.f0 ≠ 1 ∧ t.n.f0 ≠ 3 ∧ t.n.f0 ≠ 4) ∧ ∃ T u, (T = 119 ∨ T = 81 ∨ T = 83 ∨ T = 93 ∨ T = 85) ∧ v = .iface T u) := by
  cases r with
  | zero => cases t; exact h.elim
  | succ r =>
    cases t with
    | node x ks =>
      simp only [ET.n, ET.kids]
      rcases h.view hf with ⟨h1, e⟩ | ⟨h1, sv, e⟩ | ⟨h1, e⟩ | ⟨h1, k0, v0, hk, h0, e⟩ | ⟨h1, k0, v0, _, _, e⟩ | ⟨h1, k0, v0, _, _, e⟩ | ⟨h1, k0, k1, k2, v0, v1, v2, _, _, _, _, e⟩ | ⟨h1, k0, k1, v0, v1, _, _, _, e⟩
      · exact .inl ⟨h1, e⟩
      · exact .inr (.inr (.inr (.inr ⟨by omega, _, _, by simp, e⟩)))
      · exact .inr (.inl ⟨h1, e⟩)
      · have f0 : Fit k0 := hf.out.2.2.1 k0 (by simp [hk])
        subst hk
        simp only [List.getD_cons_zero]
        rcases h0.var f0 with ⟨g1, e1⟩ | ⟨g1, u, g2⟩
        · exact .inr (.inr (.inl ⟨h1, g1, by rw [e, e1]; rfl⟩))
        · refine .inr (.inr (.inr (.inl ⟨h1, g1, ?_⟩)))
          rcases g2 with g2 | g2 | g2 | g2 | g2 | g2 | g2
          · exact ⟨76, u, .inl rfl, by rw [e, g2]⟩
          · exact ⟨78, u, .inr (.inl rfl), by rw [e, g2]⟩
          · exact ⟨81, u, .inr (.inr (.inl rfl)), by rw [e, g2]⟩
          · exact ⟨83, u, .inr (.inr (.inr (.inl rfl))), by rw [e, g2]⟩
          · exact ⟨93, u, .inr (.inr (.inr (.inr (.inl rfl)))), by rw [e, g2]⟩
          · exact ⟨85, u, .inr (.inr (.inr (.inr (.inr (.inl rfl))))), by rw [e, g2]⟩
          · exact ⟨119, u, .inr (.inr (.inr (.inr (.inr (.inr (rfl)))))), by rw [e, g2]⟩
      · exact .inr (.inr (.inr (.inr ⟨by omega, _, _, by simp, e⟩)))
      · exact .inr (.inr (.inr (.inr ⟨by omega, _, _, by simp, e⟩)))
      · exact .inr (.inr (.inr (.inr ⟨by omega, _, _, by simp, e⟩)))
      · exact .inr (.inr (.inr (.inr ⟨by omega, _, _, by simp, e⟩)))
set_option maxRecDepth 20000 in
set_option maxHeartbeats 1000000 in
theorem fieldFirst_get (kd : Int) (T0 T : TypeId) (u0 u : Value) (s : ByteArray) (k1 : ET) (g : k1.n.f0 = 4) (w : World) :
    Calls Tryz.prog 60 #[.agg #[.int .i64 kd, .iface T0 u0, .iface 78 (.agg #[.iface T u, .string s])]] w fun e w' => ((swapK kd k1 ∧ e = .returned (.agg #[.int .i64 kd, .iface 78 (.agg #[.iface T u, .string s]), .iface T0 u0])) ∨ (¬ swapK kd k1 ∧ e = .returned (.agg #[.int .i64 kd, .iface T0 u0, .iface 78 (.agg #[.iface T u, .string s])]))) ∧ Below w.heap.size w w' := by
  have f1 := ta_get_get (.agg #[.iface T u, .string s])
  by_cases hk : kd = 11 ∨ kd = 12 ∨ kd = 13
  · have yes : Hid (swapK kd k1) := hide ⟨g, hk⟩
    have hst := @run_store Tryz.prog
    clear g
    rcases hk with rfl | rfl | rfl
    all_goals go_enter Tryz.func60, Tryz.ntmps60
    all_goals go_wp2_with fail
    all_goals refine bodyPost_ret (v := .agg #[.int .i64 _, .iface 78 (.agg #[.iface T u, .string s]), .iface T0 u0]) (by simp [results, Tryz.results60, go_sem]) rfl ⟨.inl ⟨unhide yes, rfl⟩, ?_⟩
    all_goals (repeat (first | exact Below.refl _ _ | refine Below.setCell ?_ (by simp) _ | refine Below.drew ?_ | refine bAl ?_ _))
  · have no : Hid (¬ swapK kd k1) := hide (fun h => hk h.2)
    simp only [not_or] at hk
    obtain ⟨d1, d2, d3⟩ := hk
    have e1 : (kd == 11) = false := by simpa using d1
    have e2 : (kd == 12) = false := by simpa using d2
    have e3 : (kd == 13) = false := by simpa using d3
    clear g d1 d2 d3
    go_enter Tryz.func60, Tryz.ntmps60
    go_wp2_with fail
    refine bodyPost_ret (v := .agg #[.int .i64 kd, .iface T0 u0, .iface 78 (.agg #[.iface T u, .string s])]) (by simp [results, Tryz.results60, go_sem]) rfl ⟨.inr ⟨unhide no, rfl⟩, ?_⟩
    (repeat (first | exact Below.refl _ _ | refine Below.setCell ?_ (by simp) _ | refine Below.drew ?_ | refine bAl ?_ _))
set_option maxRecDepth 20000 in
set_option maxHeartbeats 1000000 in
theorem fieldFirst_any {wt : World} {lo r : Nat} {k1 : ET} {v1 : Value} (h1 : ExAt wt lo r k1 v1) (f1 : Fit k1) (kd : Int) (T0 : TypeId) (u0 : Value) (w : World) :
    Calls Tryz.prog 60 #[.agg #[.int .i64 kd, .iface T0 u0, v1]] w fun e w' => ((swapK kd k1 ∧ e = .returned (.agg #[.int .i64 kd, v1, .iface T0 u0])) ∨ (¬ swapK kd k1 ∧ e = .returned (.agg #[.int .i64 kd, .iface T0 u0, v1]))) ∧ Below w.heap.size w w' := by
  have hd := h1.deep f1
  clear h1 f1
  rcases hd with ⟨g, rfl⟩ | ⟨g, rfl⟩ | ⟨g, _, rfl⟩ | ⟨g, _, T, u, _, rfl⟩ | ⟨⟨_, _, g⟩, T, u, h4, rfl⟩
  · have no : Hid (¬ swapK kd k1) := hide (fun h => by have := h.1; omega)
    clear g
    generalize k1.n.f2 = x2
    generalize k1.n.f3 = x3
    generalize k1.n.f4 = x4
    generalize k1.n.f5 = x5
    have f1 := ta_lit_get (.agg #[.int .i64 x2, .int .i64 x3, .string x4, .string x5])
    go_enter Tryz.func60, Tryz.ntmps60
    go_wp2_with fail
    refine bodyPost_ret (v := .agg #[.int .i64 kd, .iface T0 u0, .iface 76 (.agg #[.int .i64 x2, .int .i64 x3, .string x4, .string x5])]) (by simp [results, Tryz.results60, go_sem]) rfl ⟨.inr ⟨unhide no, rfl⟩, ?_⟩
    (repeat (first | exact Below.refl _ _ | refine Below.setCell ?_ (by simp) _ | refine Below.drew ?_ | refine bAl ?_ _))
  · have no : Hid (¬ swapK kd k1) := hide (fun h => by have := h.1; omega)
    clear g
    generalize k1.n.f1 = x1
    have f1 := ta_var_get (.agg #[.string x1])
    go_enter Tryz.func60, Tryz.ntmps60
    go_wp2_with fail
    refine bodyPost_ret (v := .agg #[.int .i64 kd, .iface T0 u0, .iface 112 (.agg #[.string x1])]) (by simp [results, Tryz.results60, go_sem]) rfl ⟨.inr ⟨unhide no, rfl⟩, ?_⟩
    (repeat (first | exact Below.refl _ _ | refine Below.setCell ?_ (by simp) _ | refine Below.drew ?_ | refine bAl ?_ _))
  · exact fieldFirst_get kd T0 _ u0 _ _ k1 g w
  · exact fieldFirst_get kd T0 _ u0 _ _ k1 g w
  · have no : Hid (¬ swapK kd k1) := hide (fun h => g h.1)
    clear g
    rcases h4 with rfl | rfl | rfl | rfl | rfl
    · have f1 := ta_set_get u
      go_enter Tryz.func60, Tryz.ntmps60
      go_wp2_with fail
      refine bodyPost_ret (v := .agg #[.int .i64 kd, .iface T0 u0, .iface 119 u]) (by simp [results, Tryz.results60, go_sem]) rfl ⟨.inr ⟨unhide no, rfl⟩, ?_⟩
      (repeat (first | exact Below.refl _ _ | refine Below.setCell ?_ (by simp) _ | refine Below.drew ?_ | refine bAl ?_ _))
    · have f1 := ta_word_get u
      go_enter Tryz.func60, Tryz.ntmps60
      go_wp2_with fail
      refine bodyPost_ret (v := .agg #[.int .i64 kd, .iface T0 u0, .iface 81 u]) (by simp [results, Tryz.results60, go_sem]) rfl ⟨.inr ⟨unhide no, rfl⟩, ?_⟩
      (repeat (first | exact Below.refl _ _ | refine Below.setCell ?_ (by simp) _ | refine Below.drew ?_ | refine bAl ?_ _))
    · have f1 := ta_sign_get u
      go_enter Tryz.func60, Tryz.ntmps60
      go_wp2_with fail
      refine bodyPost_ret (v := .agg #[.int .i64 kd, .iface T0 u0, .iface 83 u]) (by simp [results, Tryz.results60, go_sem]) rfl ⟨.inr ⟨unhide no, rfl⟩, ?_⟩
      (repeat (first | exact Below.refl _ _ | refine Below.setCell ?_ (by simp) _ | refine Below.drew ?_ | refine bAl ?_ _))
    · have f1 := ta_if_get u
      go_enter Tryz.func60, Tryz.ntmps60
      go_wp2_with fail
      refine bodyPost_ret (v := .agg #[.int .i64 kd, .iface T0 u0, .iface 93 u]) (by simp [results, Tryz.results60, go_sem]) rfl ⟨.inr ⟨unhide no, rfl⟩, ?_⟩
      (repeat (first | exact Below.refl _ _ | refine Below.setCell ?_ (by simp) _ | refine Below.drew ?_ | refine bAl ?_ _))
    · have f1 := ta_pair_get u
      go_enter Tryz.func60, Tryz.ntmps60
      go_wp2_with fail
      refine bodyPost_ret (v := .agg #[.int .i64 kd, .iface T0 u0, .iface 85 u]) (by simp [results, Tryz.results60, go_sem]) rfl ⟨.inr ⟨unhide no, rfl⟩, ?_⟩
      (repeat (first | exact Below.refl _ _ | refine Below.setCell ?_ (by simp) _ | refine Below.drew ?_ | refine bAl ?_ _))

end Go.Proofs.YteaidfighimoiaaGreat.V
/- impl.litAskOf. -/
namespace Go.Proofs.YteaidfighimoiaaGreat.V
open Go.RowKit Go.Maps

theorem bytes_is (s : ByteArray) (l : List UInt8) : s = ⟨l.toArray⟩ ↔ (s.toList == l) = true := by
  rw [beq_iff_eq]
  constructor
  · rintro rfl; rw [ByteArray.toList_eq]
  · intro e; rw [ByteArray.toList_eq] at e; cases s with
    | mk d => simp at e; subst e; rfl
theorem results_twoF {P : Program} {fn : Func} {p q : Tmp} {ty : TypeId} (h : fn.results = #[.cell p ty, .tmp q]) (tmps : Array Value) (w : World) (g : Nat) (t : TypeId) (cs : Array Value) (fr : Nat × Nat) (d : TypeDesc) (v : Value)
    (hp : tmps.getD p undef = .pointer (some ⟨g, 0, none⟩)) (hq : tmps.getD q undef = v) (hg : w.heap[g]? = some (.cells cs t fr))
    (hu : P.underlying ty = some d) (hd : (match d with | .struct _ | .array _ _ => true | _ => false) = true) (hi : (P.info? ty).map (·.size) = some cs.size) :
    (results fn tmps).run P w = .ok (.tuple #[.agg cs, v]) w := by
  have hp' : tmps[p]?.getD undef = .pointer (some ⟨g, 0, none⟩) := by simpa using hp
  have hq' : tmps[q]?.getD undef = v := by simpa using hq
  simp [results, h, hp', hq', asAddr, run_loadVar_row w g t ty cs fr d hg hu hd hi]
def AskEnd (e : Ending) (P : Prop) : Prop := ∃ (p f : ByteArray) (k x n : Int) (t y : ByteArray) (b : Bool), e = .returned (.tuple #[.agg #[.string p, .string f, .int .i64 k, .int .i64 x, .int .i64 n, .string t, .string y], .bool b]) ∧ (b = true ↔ P)
theorem AskEnd.of {P : Prop} {p f t y : ByteArray} {k x n : Int} {b : Bool} (h : b = true ↔ P) : AskEnd (.returned (.tuple #[.agg #[.string p, .string f, .int .i64 k, .int .i64 x, .int .i64 n, .string t, .string y], .bool b])) P := ⟨p, f, k, x, n, t, y, b, rfl, h⟩
theorem RowIs.drI {w : World} {b : Nat} {C : Array Value} {T : TypeId} (h : RowIs w b C T) : RowIs w.drew b C T := h
theorem RowIs.set7 {w : World} {b : Nat} {T : TypeId} {z0 z1 z2 z3 z4 z5 z6 u0 u1 u2 u3 u4 u5 u6 : Value} (h : RowIs w b #[z0, z1, z2, z3, z4, z5, z6] T) : RowIs (World.drew (((((((w.setCell ⟨b, 0, none⟩ u0).setCell ⟨b, 1, none⟩ u1).setCell ⟨b, 2, none⟩ u2).setCell ⟨b, 3, none⟩ u3).setCell ⟨b, 4, none⟩ u4).setCell ⟨b, 5, none⟩ u5).setCell ⟨b, 6, none⟩ u6)) b #[u0, u1, u2, u3, u4, u5, u6] T := by
  have h := (((((((h.set 0 u0).set 1 u1).set 2 u2).set 3 u3).set 4 u4).set 5 u5).set 6 u6)
  have h2 : RowIs (((((((w.setCell ⟨b, 0, none⟩ u0).setCell ⟨b, 1, none⟩ u1).setCell ⟨b, 2, none⟩ u2).setCell ⟨b, 3, none⟩ u3).setCell ⟨b, 4, none⟩ u4).setCell ⟨b, 5, none⟩ u5).setCell ⟨b, 6, none⟩ u6) b #[u0, u1, u2, u3, u4, u5, u6] T := by simpa using h
  exact h2.drI
theorem RowIs.set7n {w : World} {b : Nat} {T : TypeId} {z0 z1 z2 z3 z4 z5 z6 u0 u1 u2 u3 u4 u5 u6 : Value} (h : RowIs w b #[z0, z1, z2, z3, z4, z5, z6] T) : RowIs (((((((w.setCell ⟨b, 0, none⟩ u0).setCell ⟨b, 1, none⟩ u1).setCell ⟨b, 2, none⟩ u2).setCell ⟨b, 3, none⟩ u3).setCell ⟨b, 4, none⟩ u4).setCell ⟨b, 5, none⟩ u5).setCell ⟨b, 6, none⟩ u6) b #[u0, u1, u2, u3, u4, u5, u6] T := by
  have h := (((((((h.set 0 u0).set 1 u1).set 2 u2).set 3 u3).set 4 u4).set 5 u5).set 6 u6)
  simpa using h
set_option maxRecDepth 20000 in
set_option maxHeartbeats 2000000 in
theorem litAsk_nolit (P : Prop) (Ta Tb : TypeId) (ua ub : Value) (kd : Int) (T0 T1 : TypeId) (u0 u1 : Value) (w : World)
    (q : ∀ w : World, Calls Tryz.prog 60 #[.agg #[.int .i64 kd, .iface T0 u0, .iface T1 u1]] w fun e w' => e = .returned (.agg #[.int .i64 kd, .iface Ta ua, .iface Tb ub]) ∧ Below w.heap.size w w')
    (no : Hid (¬ P))
    (f1 : ∀ w : World, (Instr.typeAssert (.iface Tb ub) 55 76 true).run Tryz.prog w = .ok (.tuple #[.agg #[.int .i64 0, .int .i64 0, .string ⟨#[]⟩, .string ⟨#[]⟩], .bool false]) w) :
    Calls Tryz.prog 39 #[.agg #[.int .i64 kd, .iface T0 u0, .iface T1 u1]] w fun e w' => AskEnd e P ∧ Below w.heap.size w w' := by
  have Q := hide q
  have R1 := hide ((RowIs.new w #[.int .i64 kd, .iface T0 u0, .iface T1 u1] 85).keep (bAl (Below.refl _ _) (.cells #[.string ⟨#[]⟩, .string ⟨#[]⟩, .int .i64 0, .int .i64 0, .int .i64 0, .string ⟨#[]⟩, .string ⟨#[]⟩] 89)))
  have R2 := hide (RowIs.new (w.alloc (.cells #[.int .i64 kd, .iface T0 u0, .iface T1 u1] 85)) #[.string ⟨#[]⟩, .string ⟨#[]⟩, .int .i64 0, .int .i64 0, .int .i64 0, .string ⟨#[]⟩, .string ⟨#[]⟩] 89)
  have B0 := hide (bAl (bAl (Below.refl w.heap.size w) (.cells #[.int .i64 kd, .iface T0 u0, .iface T1 u1] 85)) (.cells #[.string ⟨#[]⟩, .string ⟨#[]⟩, .int .i64 0, .int .i64 0, .int .i64 0, .string ⟨#[]⟩, .string ⟨#[]⟩] 89))
  clear q
  go_enter Tryz.func39, Tryz.ntmps39
  go_wp2_with fail
  refine (unhide Q _).mono ?_
  rintro e w1 ⟨rfl, hb1⟩
  have S1 := hide ((unhide R1).keep hb1)
  have S2 := hide ((unhide R2).keep hb1)
  have B1 := hide (bTr (unhide B0) hb1)
  have es : (w.alloc (.cells #[.int .i64 kd, .iface T0 u0, .iface T1 u1] 85)).heap.size = w.heap.size + 1 := by simp
  rw [es] at S2
  clear hb1 R1 R2 B0 Q es
  obtain ⟨W, hW⟩ : ∃ W, W = w1.setRow w.heap.size #[.int .i64 kd, .iface Ta ua, .iface Tb ub] := ⟨_, rfl⟩
  have BW : Hid (Below w.heap.size w W) := hide (by rw [hW]; exact bRowY (unhide B1) (Nat.le_refl _) _)
  have N1 : RowIs W w.heap.size #[.int .i64 kd, .iface Ta ua, .iface Tb ub] 85 := by rw [hW]; exact setRow_heap _ _ _ _ _ _ (unhide S1)
  have N2 := hide (show RowIs W (w.heap.size + 1) #[.string ⟨#[]⟩, .string ⟨#[]⟩, .int .i64 0, .int .i64 0, .int .i64 0, .string ⟨#[]⟩, .string ⟨#[]⟩] 89 by
    rw [hW]; unfold RowIs; rw [setRow_other _ _ _ _ (by omega)]; exact unhide S2)
  have HW := hide hW.symm
  have t0 := N1.at (o := 0) (v := .int .i64 kd) rfl
  have t1 := N1.at (o := 1) (v := .iface Ta ua) rfl
  have t2 := N1.at (o := 2) (v := .iface Tb ub) rfl
  have z1 := N1.lt
  have z2 := (unhide N2).lt
  clear hW N1
  iterate 2 (try (first | go_values | go_skip | go_guarded | go_step | go_upon | go_simp))
  refine wpList_store_row rfl 85 _ _ rfl w.heap.size #[.int .i64 kd, .iface Ta ua, .iface Tb ub] rfl rfl 85 _ (unhide S1) (by kernel_rfl) rfl (by simp [Value.oneCell']) ?_
  rw [unhide HW]
  clear HW S1 S2 B1
  go_upto_region 4 with fail
  iterate 4 (try (first | go_values | go_skip | go_guarded | go_step | go_upon | go_simp))
  refine wpList_store_row rfl 89 _ _ rfl (w.heap.size + 1) #[.string ⟨#[]⟩, .string ⟨#[]⟩, .int .i64 0, .int .i64 0, .int .i64 0, .string ⟨#[]⟩, .string ⟨#[]⟩] rfl rfl 89 _ ((unhide N2).keep (bAl (Below.refl _ _) _)) (by kernel_rfl) rfl (by simp [Value.oneCell']) ?_
  go_wp2_with fail
  exact bodyPost_ret (v := .tuple #[.agg #[.string ⟨#[]⟩, .string ⟨#[]⟩, .int .i64 0, .int .i64 0, .int .i64 0, .string ⟨#[]⟩, .string ⟨#[]⟩], .bool false]) (results_twoF rfl _ _ (w.heap.size + 1) 89 _ (0, 0) _ _ rfl rfl (setRow_heap _ _ _ _ _ _ ((unhide N2).keep (bAl (Below.refl _ _) _))) Tryz.underlying89 rfl (by kernel_rfl)) rfl ⟨AskEnd.of ⟨fun h => (by cases h), fun h => absurd h (unhide no)⟩, bRowY (bAl (unhide BW) _) (by omega) _⟩
set_option maxRecDepth 20000 in
set_option maxHeartbeats 2000000 in
theorem litAsk_none (P : Prop) (x2 x3 : Int) (x4 x5 : ByteArray) (Ta : TypeId) (ua : Value) (kd : Int) (T0 T1 : TypeId) (u0 u1 : Value) (w : World)
    (q : ∀ w : World, Calls Tryz.prog 60 #[.agg #[.int .i64 kd, .iface T0 u0, .iface T1 u1]] w fun e w' => e = .returned (.agg #[.int .i64 kd, .iface Ta ua, .iface 76 (.agg #[.int .i64 x2, .int .i64 x3, .string x4, .string x5])]) ∧ Below w.heap.size w w')
    (no : Hid (¬ P))
    (f2 : ∀ w : World, (Instr.typeAssert (.iface Ta ua) 55 112 true).run Tryz.prog w = .ok (.tuple #[.agg #[.string ⟨#[]⟩], .bool false]) w)
    (f3 : ∀ w : World, (Instr.typeAssert (.iface Ta ua) 55 78 true).run Tryz.prog w = .ok (.tuple #[.agg #[.nilIface, .string ⟨#[]⟩], .bool false]) w) :
    Calls Tryz.prog 39 #[.agg #[.int .i64 kd, .iface T0 u0, .iface T1 u1]] w fun e w' => AskEnd e P ∧ Below w.heap.size w w' := by
  have Q := hide q
  have R1 := hide ((RowIs.new w #[.int .i64 kd, .iface T0 u0, .iface T1 u1] 85).keep (bAl (Below.refl _ _) (.cells #[.string ⟨#[]⟩, .string ⟨#[]⟩, .int .i64 0, .int .i64 0, .int .i64 0, .string ⟨#[]⟩, .string ⟨#[]⟩] 89)))
  have R2 := hide (RowIs.new (w.alloc (.cells #[.int .i64 kd, .iface T0 u0, .iface T1 u1] 85)) #[.string ⟨#[]⟩, .string ⟨#[]⟩, .int .i64 0, .int .i64 0, .int .i64 0, .string ⟨#[]⟩, .string ⟨#[]⟩] 89)
  have B0 := hide (bAl (bAl (Below.refl w.heap.size w) (.cells #[.int .i64 kd, .iface T0 u0, .iface T1 u1] 85)) (.cells #[.string ⟨#[]⟩, .string ⟨#[]⟩, .int .i64 0, .int .i64 0, .int .i64 0, .string ⟨#[]⟩, .string ⟨#[]⟩] 89))
  clear q
  go_enter Tryz.func39, Tryz.ntmps39
  go_wp2_with fail
  refine (unhide Q _).mono ?_
  rintro e w1 ⟨rfl, hb1⟩
  have S1 := hide ((unhide R1).keep hb1)
  have S2 := hide ((unhide R2).keep hb1)
  have B1 := hide (bTr (unhide B0) hb1)
  have es : (w.alloc (.cells #[.int .i64 kd, .iface T0 u0, .iface T1 u1] 85)).heap.size = w.heap.size + 1 := by simp
  rw [es] at S2
  clear hb1 R1 R2 B0 Q es
  obtain ⟨W, hW⟩ : ∃ W, W = w1.setRow w.heap.size #[.int .i64 kd, .iface Ta ua, .iface 76 (.agg #[.int .i64 x2, .int .i64 x3, .string x4, .string x5])] := ⟨_, rfl⟩
  have BW : Hid (Below w.heap.size w W) := hide (by rw [hW]; exact bRowY (unhide B1) (Nat.le_refl _) _)
  have N1 : RowIs W w.heap.size #[.int .i64 kd, .iface Ta ua, .iface 76 (.agg #[.int .i64 x2, .int .i64 x3, .string x4, .string x5])] 85 := by rw [hW]; exact setRow_heap _ _ _ _ _ _ (unhide S1)
  have N2 := hide (show RowIs W (w.heap.size + 1) #[.string ⟨#[]⟩, .string ⟨#[]⟩, .int .i64 0, .int .i64 0, .int .i64 0, .string ⟨#[]⟩, .string ⟨#[]⟩] 89 by
    rw [hW]; unfold RowIs; rw [setRow_other _ _ _ _ (by omega)]; exact unhide S2)
  have HW := hide hW.symm
  have t0 := N1.at (o := 0) (v := .int .i64 kd) rfl
  have t1 := N1.at (o := 1) (v := .iface Ta ua) rfl
  have t2 := N1.at (o := 2) (v := .iface 76 (.agg #[.int .i64 x2, .int .i64 x3, .string x4, .string x5])) rfl
  have z1 := N1.lt
  have z2 := (unhide N2).lt
  clear hW N1
  iterate 2 (try (first | go_values | go_skip | go_guarded | go_step | go_upon | go_simp))
  refine wpList_store_row rfl 85 _ _ rfl w.heap.size #[.int .i64 kd, .iface Ta ua, .iface 76 (.agg #[.int .i64 x2, .int .i64 x3, .string x4, .string x5])] rfl rfl 85 _ (unhide S1) (by kernel_rfl) rfl (by simp [Value.oneCell']) ?_
  rw [unhide HW]
  clear HW S1 S2 B1
  have f1 := ta_lit_lit (.agg #[.int .i64 x2, .int .i64 x3, .string x4, .string x5])
  go_upto_region 17 with fail
  iterate 4 (try (first | go_values | go_skip | go_guarded | go_step | go_upon | go_simp))
  refine wpList_store_row rfl 89 _ _ rfl (w.heap.size + 1) #[.string ⟨#[]⟩, .string ⟨#[]⟩, .int .i64 0, .int .i64 0, .int .i64 0, .string ⟨#[]⟩, .string ⟨#[]⟩] rfl rfl 89 _ ((unhide N2).keep (bAl (bAl (Below.refl _ _) _) _)) (by kernel_rfl) rfl (by simp [Value.oneCell']) ?_
  go_wp2_with fail
  exact bodyPost_ret (v := .tuple #[.agg #[.string ⟨#[]⟩, .string ⟨#[]⟩, .int .i64 0, .int .i64 0, .int .i64 0, .string ⟨#[]⟩, .string ⟨#[]⟩], .bool false]) (results_twoF rfl _ _ (w.heap.size + 1) 89 _ (0, 0) _ _ rfl rfl (setRow_heap _ _ _ _ _ _ ((unhide N2).keep (bAl (bAl (Below.refl _ _) _) _))) Tryz.underlying89 rfl (by kernel_rfl)) rfl ⟨AskEnd.of ⟨fun h => (by cases h), fun h => absurd h (unhide no)⟩, bRowY (bAl (bAl (unhide BW) _) _) (by omega) _⟩
set_option maxRecDepth 20000 in
set_option maxHeartbeats 2000000 in
theorem litAsk_var (P : Prop) (x2 x3 : Int) (x4 x5 : ByteArray) (s : ByteArray) (kd : Int) (T0 T1 : TypeId) (u0 u1 : Value) (w : World)
    (q : ∀ w : World, Calls Tryz.prog 60 #[.agg #[.int .i64 kd, .iface T0 u0, .iface T1 u1]] w fun e w' => e = .returned (.agg #[.int .i64 kd, .iface 112 (.agg #[.string s]), .iface 76 (.agg #[.int .i64 x2, .int .i64 x3, .string x4, .string x5])]) ∧ Below w.heap.size w w')
    (hP : Hid (P ↔ (s ≠ bCon ∧ (kd = 11 ∨ kd = 17)))) :
    Calls Tryz.prog 39 #[.agg #[.int .i64 kd, .iface T0 u0, .iface T1 u1]] w fun e w' => AskEnd e P ∧ Below w.heap.size w w' := by
  have Q := hide q
  have R1 := hide ((RowIs.new w #[.int .i64 kd, .iface T0 u0, .iface T1 u1] 85).keep (bAl (Below.refl _ _) (.cells #[.string ⟨#[]⟩, .string ⟨#[]⟩, .int .i64 0, .int .i64 0, .int .i64 0, .string ⟨#[]⟩, .string ⟨#[]⟩] 89)))
  have R2 := hide (RowIs.new (w.alloc (.cells #[.int .i64 kd, .iface T0 u0, .iface T1 u1] 85)) #[.string ⟨#[]⟩, .string ⟨#[]⟩, .int .i64 0, .int .i64 0, .int .i64 0, .string ⟨#[]⟩, .string ⟨#[]⟩] 89)
  have B0 := hide (bAl (bAl (Below.refl w.heap.size w) (.cells #[.int .i64 kd, .iface T0 u0, .iface T1 u1] 85)) (.cells #[.string ⟨#[]⟩, .string ⟨#[]⟩, .int .i64 0, .int .i64 0, .int .i64 0, .string ⟨#[]⟩, .string ⟨#[]⟩] 89))
  clear q
  go_enter Tryz.func39, Tryz.ntmps39
  go_wp2_with fail
  refine (unhide Q _).mono ?_
  rintro e w1 ⟨rfl, hb1⟩
  have S1 := hide ((unhide R1).keep hb1)
  have S2 := hide ((unhide R2).keep hb1)
  have B1 := hide (bTr (unhide B0) hb1)
  have es : (w.alloc (.cells #[.int .i64 kd, .iface T0 u0, .iface T1 u1] 85)).heap.size = w.heap.size + 1 := by simp
  rw [es] at S2
  clear hb1 R1 R2 B0 Q es
  obtain ⟨W, hW⟩ : ∃ W, W = w1.setRow w.heap.size #[.int .i64 kd, .iface 112 (.agg #[.string s]), .iface 76 (.agg #[.int .i64 x2, .int .i64 x3, .string x4, .string x5])] := ⟨_, rfl⟩
  have BW : Hid (Below w.heap.size w W) := hide (by rw [hW]; exact bRowY (unhide B1) (Nat.le_refl _) _)
  have N1 : RowIs W w.heap.size #[.int .i64 kd, .iface 112 (.agg #[.string s]), .iface 76 (.agg #[.int .i64 x2, .int .i64 x3, .string x4, .string x5])] 85 := by rw [hW]; exact setRow_heap _ _ _ _ _ _ (unhide S1)
  have N2 := hide (show RowIs W (w.heap.size + 1) #[.string ⟨#[]⟩, .string ⟨#[]⟩, .int .i64 0, .int .i64 0, .int .i64 0, .string ⟨#[]⟩, .string ⟨#[]⟩] 89 by
    rw [hW]; unfold RowIs; rw [setRow_other _ _ _ _ (by omega)]; exact unhide S2)
  have HW := hide hW.symm
  have t0 := N1.at (o := 0) (v := .int .i64 kd) rfl
  have t1 := N1.at (o := 1) (v := .iface 112 (.agg #[.string s])) rfl
  have t2 := N1.at (o := 2) (v := .iface 76 (.agg #[.int .i64 x2, .int .i64 x3, .string x4, .string x5])) rfl
  have z1 := N1.lt
  have z2 := (unhide N2).lt
  clear hW N1
  iterate 2 (try (first | go_values | go_skip | go_guarded | go_step | go_upon | go_simp))
  refine wpList_store_row rfl 85 _ _ rfl w.heap.size #[.int .i64 kd, .iface 112 (.agg #[.string s]), .iface 76 (.agg #[.int .i64 x2, .int .i64 x3, .string x4, .string x5])] rfl rfl 85 _ (unhide S1) (by kernel_rfl) rfl (by simp [Value.oneCell']) ?_
  rw [unhide HW]
  clear HW S1 S2 B1
  have f1 := ta_lit_lit (.agg #[.int .i64 x2, .int .i64 x3, .string x4, .string x5])
  have f2 := ta_var_var (.agg #[.string s])
  go_upto_region 10 with fail
  obtain ⟨X, hX⟩ : ∃ X, X = (((W.alloc (.cells #[.int .i64 x2, .int .i64 x3, .string x4, .string x5] 76)).alloc (.cells #[.string s, .string ⟨#[]⟩, .int .i64 kd, .int .i64 x2, .int .i64 x3, .string x4, .string x5] 89)).alloc (.cells #[.string s] 112)) := ⟨_, rfl⟩
  have bx : Below W.heap.size W X := by rw [hX]; exact bAl (bAl (bAl (Below.refl _ _) _) _) _
  have RX1 : RowIs X (W.heap.size + 1) #[.string s, .string ⟨#[]⟩, .int .i64 kd, .int .i64 x2, .int .i64 x3, .string x4, .string x5] 89 := by
    rw [hX]
    have h := (RowIs.new (W.alloc (.cells #[.int .i64 x2, .int .i64 x3, .string x4, .string x5] 76)) #[.string s, .string ⟨#[]⟩, .int .i64 kd, .int .i64 x2, .int .i64 x3, .string x4, .string x5] 89).keep (bAl (Below.refl _ _) (.cells #[.string s] 112))
    simpa using h
  have k10 := RX1.at (o := 0) (v := .string s) rfl
  have k11 := RX1.at (o := 1) (v := .string ⟨#[]⟩) rfl
  have k12 := RX1.at (o := 2) (v := .int .i64 kd) rfl
  have k13 := RX1.at (o := 3) (v := .int .i64 x2) rfl
  have k14 := RX1.at (o := 4) (v := .int .i64 x3) rfl
  have k15 := RX1.at (o := 5) (v := .string x4) rfl
  have k16 := RX1.at (o := 6) (v := .string x5) rfl
  clear RX1
  have RX2 : RowIs X (W.heap.size + 1 + 1) #[.string s] 112 := by
    rw [hX]
    have h := RowIs.new ((W.alloc (.cells #[.int .i64 x2, .int .i64 x3, .string x4, .string x5] 76)).alloc (.cells #[.string s, .string ⟨#[]⟩, .int .i64 kd, .int .i64 x2, .int .i64 x3, .string x4, .string x5] 89)) #[.string s] 112
    simpa using h
  have k20 := RX2.at (o := 0) (v := .string s) rfl
  clear RX2
  have RR := hide ((unhide N2).keep bx)
  have r0 := cellB bx z1 t0
  have BX := hide (bTr (unhide BW) bx)
  rw [← hX]
  clear hX bx t0 t1 t2
  have q0 := (unhide RR).at (o := 0) (v := .string ⟨#[]⟩) rfl
  have p0 := (unhide RR).froz 0
  have q1 := (unhide RR).at (o := 1) (v := .string ⟨#[]⟩) rfl
  have p1 := (unhide RR).froz 1
  have q2 := (unhide RR).at (o := 2) (v := .int .i64 0) rfl
  have p2 := (unhide RR).froz 2
  have q3 := (unhide RR).at (o := 3) (v := .int .i64 0) rfl
  have p3 := (unhide RR).froz 3
  have q4 := (unhide RR).at (o := 4) (v := .int .i64 0) rfl
  have p4 := (unhide RR).froz 4
  have q5 := (unhide RR).at (o := 5) (v := .string ⟨#[]⟩) rfl
  have p5 := (unhide RR).froz 5
  have q6 := (unhide RR).at (o := 6) (v := .string ⟨#[]⟩) rfl
  have p6 := (unhide RR).froz 6
  have cm : s = bCon ↔ (s.toList == [99, 111, 110, 116, 101, 120, 116]) = true := bytes_is s _
  clear f1 f2
  cases d : (s.toList == [99, 111, 110, 116, 101, 120, 116])
  · have ns : ¬ s = bCon := fun h => by rw [cm.1 h] at d; cases d
    by_cases h11 : kd = 11
    · subst h11
      have yes : Hid P := hide ((unhide hP).2 ⟨ns, .inl rfl⟩)
      clear cm ns hP
      have RZ := RowIs.set7 (u0 := .string s) (u1 := .string ⟨#[]⟩) (u2 := .int .i64 11) (u3 := .int .i64 x2) (u4 := .int .i64 x3) (u5 := .string x4) (u6 := .string x5) (unhide RR)
      go_region
      go_wp2_with fail
      refine bodyPost_ret (v := .tuple #[.agg #[.string s, .string ⟨#[]⟩, .int .i64 11, .int .i64 x2, .int .i64 x3, .string x4, .string x5], .bool true]) ?_ rfl ?_
      · refine results_twoF rfl _ _ (w.heap.size + 1) 89 #[.string s, .string ⟨#[]⟩, .int .i64 11, .int .i64 x2, .int .i64 x3, .string x4, .string x5] (0, 0) _ (.bool true) ?_ ?_ ?_ Tryz.underlying89 rfl ?_
        · rfl
        · rfl
        · exact RZ
        · kernel_rfl
      exact ⟨AskEnd.of ⟨fun _ => unhide yes, fun _ => rfl⟩, Below.drew (Below.setCell (Below.setCell (Below.setCell (Below.setCell (Below.setCell (Below.setCell (Below.setCell (unhide BX) (Nat.le_succ _) _) (Nat.le_succ _) _) (Nat.le_succ _) _) (Nat.le_succ _) _) (Nat.le_succ _) _) (Nat.le_succ _) _) (Nat.le_succ _) _)⟩
    by_cases h17 : kd = 17
    · subst h17
      have yes : Hid P := hide ((unhide hP).2 ⟨ns, .inr rfl⟩)
      clear cm ns hP
      have RZ := RowIs.set7 (u0 := .string s) (u1 := .string ⟨#[]⟩) (u2 := .int .i64 17) (u3 := .int .i64 x2) (u4 := .int .i64 x3) (u5 := .string x4) (u6 := .string x5) (unhide RR)
      go_region
      go_wp2_with fail
      refine bodyPost_ret (v := .tuple #[.agg #[.string s, .string ⟨#[]⟩, .int .i64 17, .int .i64 x2, .int .i64 x3, .string x4, .string x5], .bool true]) ?_ rfl ?_
      · refine results_twoF rfl _ _ (w.heap.size + 1) 89 #[.string s, .string ⟨#[]⟩, .int .i64 17, .int .i64 x2, .int .i64 x3, .string x4, .string x5] (0, 0) _ (.bool true) ?_ ?_ ?_ Tryz.underlying89 rfl ?_
        · rfl
        · rfl
        · exact RZ
        · kernel_rfl
      exact ⟨AskEnd.of ⟨fun _ => unhide yes, fun _ => rfl⟩, Below.drew (Below.setCell (Below.setCell (Below.setCell (Below.setCell (Below.setCell (Below.setCell (Below.setCell (unhide BX) (Nat.le_succ _) _) (Nat.le_succ _) _) (Nat.le_succ _) _) (Nat.le_succ _) _) (Nat.le_succ _) _) (Nat.le_succ _) _) (Nat.le_succ _) _)⟩
    have e11 : (kd == 11) = false := by simpa using h11
    have e17 : (kd == 17) = false := by simpa using h17
    have no : Hid (¬ P) := hide (fun h => by have := ((unhide hP).1 h).2; omega)
    clear cm ns h11 h17 hP
    have RZ := RowIs.set7 (u0 := .string s) (u1 := .string ⟨#[]⟩) (u2 := .int .i64 kd) (u3 := .int .i64 x2) (u4 := .int .i64 x3) (u5 := .string x4) (u6 := .string x5) (unhide RR)
    go_region
    go_wp2_with fail
    refine bodyPost_ret (v := .tuple #[.agg #[.string s, .string ⟨#[]⟩, .int .i64 kd, .int .i64 x2, .int .i64 x3, .string x4, .string x5], .bool false]) ?_ rfl ?_
    · refine results_twoF rfl _ _ (w.heap.size + 1) 89 #[.string s, .string ⟨#[]⟩, .int .i64 kd, .int .i64 x2, .int .i64 x3, .string x4, .string x5] (0, 0) _ (.bool false) ?_ ?_ ?_ Tryz.underlying89 rfl ?_
      · rfl
      · rfl
      · exact RZ
      · kernel_rfl
    exact ⟨AskEnd.of ⟨fun h => (by cases h), fun h => absurd h (unhide no)⟩, Below.drew (Below.setCell (Below.setCell (Below.setCell (Below.setCell (Below.setCell (Below.setCell (Below.setCell (unhide BX) (Nat.le_succ _) _) (Nat.le_succ _) _) (Nat.le_succ _) _) (Nat.le_succ _) _) (Nat.le_succ _) _) (Nat.le_succ _) _) (Nat.le_succ _) _)⟩
  · have no : Hid (¬ P) := hide (fun h => ((unhide hP).1 h).1 (cm.2 d))
    clear cm hP
    have RZ := RowIs.set7 (u0 := .string s) (u1 := .string ⟨#[]⟩) (u2 := .int .i64 kd) (u3 := .int .i64 x2) (u4 := .int .i64 x3) (u5 := .string x4) (u6 := .string x5) (unhide RR)
    go_region
    go_wp2_with fail
    refine bodyPost_ret (v := .tuple #[.agg #[.string s, .string ⟨#[]⟩, .int .i64 kd, .int .i64 x2, .int .i64 x3, .string x4, .string x5], .bool false]) ?_ rfl ?_
    · refine results_twoF rfl _ _ (w.heap.size + 1) 89 #[.string s, .string ⟨#[]⟩, .int .i64 kd, .int .i64 x2, .int .i64 x3, .string x4, .string x5] (0, 0) _ (.bool false) ?_ ?_ ?_ Tryz.underlying89 rfl ?_
      · rfl
      · rfl
      · exact RZ
      · kernel_rfl
    exact ⟨AskEnd.of ⟨fun h => (by cases h), fun h => absurd h (unhide no)⟩, Below.drew (Below.setCell (Below.setCell (Below.setCell (Below.setCell (Below.setCell (Below.setCell (Below.setCell (unhide BX) (Nat.le_succ _) _) (Nat.le_succ _) _) (Nat.le_succ _) _) (Nat.le_succ _) _) (Nat.le_succ _) _) (Nat.le_succ _) _) (Nat.le_succ _) _)⟩
set_option maxRecDepth 20000 in
set_option maxHeartbeats 2000000 in
theorem litAsk_getvar (P : Prop) (x2 x3 : Int) (x4 x5 : ByteArray) (s f : ByteArray) (kd : Int) (T0 T1 : TypeId) (u0 u1 : Value) (w : World)
    (q : ∀ w : World, Calls Tryz.prog 60 #[.agg #[.int .i64 kd, .iface T0 u0, .iface T1 u1]] w fun e w' => e = .returned (.agg #[.int .i64 kd, .iface 78 (.agg #[.iface 112 (.agg #[.string s]), .string f]), .iface 76 (.agg #[.int .i64 x2, .int .i64 x3, .string x4, .string x5])]) ∧ Below w.heap.size w w')
    (hP : Hid (P ↔ (s ≠ bAct ∧ (kd = 11 ∨ kd = 12 ∨ kd = 13 ∨ kd = 18)))) :
    Calls Tryz.prog 39 #[.agg #[.int .i64 kd, .iface T0 u0, .iface T1 u1]] w fun e w' => AskEnd e P ∧ Below w.heap.size w w' := by
  have Q := hide q
  have R1 := hide ((RowIs.new w #[.int .i64 kd, .iface T0 u0, .iface T1 u1] 85).keep (bAl (Below.refl _ _) (.cells #[.string ⟨#[]⟩, .string ⟨#[]⟩, .int .i64 0, .int .i64 0, .int .i64 0, .string ⟨#[]⟩, .string ⟨#[]⟩] 89)))
  have R2 := hide (RowIs.new (w.alloc (.cells #[.int .i64 kd, .iface T0 u0, .iface T1 u1] 85)) #[.string ⟨#[]⟩, .string ⟨#[]⟩, .int .i64 0, .int .i64 0, .int .i64 0, .string ⟨#[]⟩, .string ⟨#[]⟩] 89)
  have B0 := hide (bAl (bAl (Below.refl w.heap.size w) (.cells #[.int .i64 kd, .iface T0 u0, .iface T1 u1] 85)) (.cells #[.string ⟨#[]⟩, .string ⟨#[]⟩, .int .i64 0, .int .i64 0, .int .i64 0, .string ⟨#[]⟩, .string ⟨#[]⟩] 89))
  clear q
  go_enter Tryz.func39, Tryz.ntmps39
  go_wp2_with fail
  refine (unhide Q _).mono ?_
  rintro e w1 ⟨rfl, hb1⟩
  have S1 := hide ((unhide R1).keep hb1)
  have S2 := hide ((unhide R2).keep hb1)
  have B1 := hide (bTr (unhide B0) hb1)
  have es : (w.alloc (.cells #[.int .i64 kd, .iface T0 u0, .iface T1 u1] 85)).heap.size = w.heap.size + 1 := by simp
  rw [es] at S2
  clear hb1 R1 R2 B0 Q es
  obtain ⟨W, hW⟩ : ∃ W, W = w1.setRow w.heap.size #[.int .i64 kd, .iface 78 (.agg #[.iface 112 (.agg #[.string s]), .string f]), .iface 76 (.agg #[.int .i64 x2, .int .i64 x3, .string x4, .string x5])] := ⟨_, rfl⟩
  have BW : Hid (Below w.heap.size w W) := hide (by rw [hW]; exact bRowY (unhide B1) (Nat.le_refl _) _)
  have N1 : RowIs W w.heap.size #[.int .i64 kd, .iface 78 (.agg #[.iface 112 (.agg #[.string s]), .string f]), .iface 76 (.agg #[.int .i64 x2, .int .i64 x3, .string x4, .string x5])] 85 := by rw [hW]; exact setRow_heap _ _ _ _ _ _ (unhide S1)
  have N2 := hide (show RowIs W (w.heap.size + 1) #[.string ⟨#[]⟩, .string ⟨#[]⟩, .int .i64 0, .int .i64 0, .int .i64 0, .string ⟨#[]⟩, .string ⟨#[]⟩] 89 by
    rw [hW]; unfold RowIs; rw [setRow_other _ _ _ _ (by omega)]; exact unhide S2)
  have HW := hide hW.symm
  have t0 := N1.at (o := 0) (v := .int .i64 kd) rfl
  have t1 := N1.at (o := 1) (v := .iface 78 (.agg #[.iface 112 (.agg #[.string s]), .string f])) rfl
  have t2 := N1.at (o := 2) (v := .iface 76 (.agg #[.int .i64 x2, .int .i64 x3, .string x4, .string x5])) rfl
  have z1 := N1.lt
  have z2 := (unhide N2).lt
  clear hW N1
  iterate 2 (try (first | go_values | go_skip | go_guarded | go_step | go_upon | go_simp))
  refine wpList_store_row rfl 85 _ _ rfl w.heap.size #[.int .i64 kd, .iface 78 (.agg #[.iface 112 (.agg #[.string s]), .string f]), .iface 76 (.agg #[.int .i64 x2, .int .i64 x3, .string x4, .string x5])] rfl rfl 85 _ (unhide S1) (by kernel_rfl) rfl (by simp [Value.oneCell']) ?_
  rw [unhide HW]
  clear HW S1 S2 B1
  have f1 := ta_lit_lit (.agg #[.int .i64 x2, .int .i64 x3, .string x4, .string x5])
  have f2 := ta_get_var (.agg #[.iface 112 (.agg #[.string s]), .string f])
  have f3 := ta_get_get (.agg #[.iface 112 (.agg #[.string s]), .string f])
  have f4 := ta_var_var (.agg #[.string s])
  by_cases h11 : kd = 11
  · subst h11
    go_upto_region 15 with fail
    obtain ⟨X, hX⟩ : ∃ X, X = ((((W.alloc (.cells #[.int .i64 x2, .int .i64 x3, .string x4, .string x5] 76)).alloc (.cells #[.string s, .string f, .int .i64 11, .int .i64 x2, .int .i64 x3, .string x4, .string x5] 89)).alloc (.cells #[.iface 112 (.agg #[.string s]), .string f] 78)).alloc (.cells #[.string s] 112)) := ⟨_, rfl⟩
    have bx : Below W.heap.size W X := by rw [hX]; exact bAl (bAl (bAl (bAl (Below.refl _ _) _) _) _) _
    have RX1 : RowIs X (W.heap.size + 1) #[.string s, .string f, .int .i64 11, .int .i64 x2, .int .i64 x3, .string x4, .string x5] 89 := by
      rw [hX]
      have h := ((RowIs.new (W.alloc (.cells #[.int .i64 x2, .int .i64 x3, .string x4, .string x5] 76)) #[.string s, .string f, .int .i64 11, .int .i64 x2, .int .i64 x3, .string x4, .string x5] 89).keep (bAl (Below.refl _ _) (.cells #[.iface 112 (.agg #[.string s]), .string f] 78))).keep (bAl (Below.refl _ _) (.cells #[.string s] 112))
      simpa using h
    have k10 := RX1.at (o := 0) (v := .string s) rfl
    have k11 := RX1.at (o := 1) (v := .string f) rfl
    have k12 := RX1.at (o := 2) (v := .int .i64 11) rfl
    have k13 := RX1.at (o := 3) (v := .int .i64 x2) rfl
    have k14 := RX1.at (o := 4) (v := .int .i64 x3) rfl
    have k15 := RX1.at (o := 5) (v := .string x4) rfl
    have k16 := RX1.at (o := 6) (v := .string x5) rfl
    clear RX1
    have RX3 : RowIs X (W.heap.size + 1 + 1 + 1) #[.string s] 112 := by
      rw [hX]
      have h := RowIs.new (((W.alloc (.cells #[.int .i64 x2, .int .i64 x3, .string x4, .string x5] 76)).alloc (.cells #[.string s, .string f, .int .i64 11, .int .i64 x2, .int .i64 x3, .string x4, .string x5] 89)).alloc (.cells #[.iface 112 (.agg #[.string s]), .string f] 78)) #[.string s] 112
      simpa using h
    have k30 := RX3.at (o := 0) (v := .string s) rfl
    clear RX3
    have RR := hide ((unhide N2).keep bx)
    have r0 := cellB bx z1 t0
    have BX := hide (bTr (unhide BW) bx)
    rw [← hX]
    clear hX bx t0 t1 t2
    have q0 := (unhide RR).at (o := 0) (v := .string ⟨#[]⟩) rfl
    have p0 := (unhide RR).froz 0
    have q1 := (unhide RR).at (o := 1) (v := .string ⟨#[]⟩) rfl
    have p1 := (unhide RR).froz 1
    have q2 := (unhide RR).at (o := 2) (v := .int .i64 0) rfl
    have p2 := (unhide RR).froz 2
    have q3 := (unhide RR).at (o := 3) (v := .int .i64 0) rfl
    have p3 := (unhide RR).froz 3
    have q4 := (unhide RR).at (o := 4) (v := .int .i64 0) rfl
    have p4 := (unhide RR).froz 4
    have q5 := (unhide RR).at (o := 5) (v := .string ⟨#[]⟩) rfl
    have p5 := (unhide RR).froz 5
    have q6 := (unhide RR).at (o := 6) (v := .string ⟨#[]⟩) rfl
    have p6 := (unhide RR).froz 6
    have cm : s = bAct ↔ (s.toList == [97, 99, 116, 105, 111, 110]) = true := bytes_is s _
    clear f1 f2 f3 f4
    go_upto_region 16 with fail
    clear r0
    cases d : (s.toList == [97, 99, 116, 105, 111, 110])
    · have yes : Hid P := hide ((unhide hP).2 ⟨(fun h => by rw [cm.1 h] at d; cases d), (by omega)⟩)
      clear cm hP
      have RZ := RowIs.set7n (u0 := .string s) (u1 := .string f) (u2 := .int .i64 11) (u3 := .int .i64 x2) (u4 := .int .i64 x3) (u5 := .string x4) (u6 := .string x5) (unhide RR)
      go_wp2_with fail
      refine bodyPost_ret (v := .tuple #[.agg #[.string s, .string f, .int .i64 11, .int .i64 x2, .int .i64 x3, .string x4, .string x5], .bool true]) ?_ rfl ?_
      · refine results_twoF rfl _ _ (w.heap.size + 1) 89 #[.string s, .string f, .int .i64 11, .int .i64 x2, .int .i64 x3, .string x4, .string x5] (0, 0) _ (.bool true) ?_ ?_ ?_ Tryz.underlying89 rfl ?_
        · rfl
        · rfl
        · exact RZ
        · kernel_rfl
      exact ⟨AskEnd.of ⟨fun _ => unhide yes, fun _ => rfl⟩, (Below.setCell (Below.setCell (Below.setCell (Below.setCell (Below.setCell (Below.setCell (Below.setCell (unhide BX) (Nat.le_succ _) _) (Nat.le_succ _) _) (Nat.le_succ _) _) (Nat.le_succ _) _) (Nat.le_succ _) _) (Nat.le_succ _) _) (Nat.le_succ _) _)⟩
    · have no : Hid (¬ P) := hide (fun h => ((unhide hP).1 h).1 (cm.2 d))
      clear cm hP
      have RZ := RowIs.set7n (u0 := .string s) (u1 := .string f) (u2 := .int .i64 11) (u3 := .int .i64 x2) (u4 := .int .i64 x3) (u5 := .string x4) (u6 := .string x5) (unhide RR)
      go_wp2_with fail
      refine bodyPost_ret (v := .tuple #[.agg #[.string s, .string f, .int .i64 11, .int .i64 x2, .int .i64 x3, .string x4, .string x5], .bool false]) ?_ rfl ?_
      · refine results_twoF rfl _ _ (w.heap.size + 1) 89 #[.string s, .string f, .int .i64 11, .int .i64 x2, .int .i64 x3, .string x4, .string x5] (0, 0) _ (.bool false) ?_ ?_ ?_ Tryz.underlying89 rfl ?_
        · rfl
        · rfl
        · exact RZ
        · kernel_rfl
      exact ⟨AskEnd.of ⟨fun h => (by cases h), fun h => absurd h (unhide no)⟩, (Below.setCell (Below.setCell (Below.setCell (Below.setCell (Below.setCell (Below.setCell (Below.setCell (unhide BX) (Nat.le_succ _) _) (Nat.le_succ _) _) (Nat.le_succ _) _) (Nat.le_succ _) _) (Nat.le_succ _) _) (Nat.le_succ _) _) (Nat.le_succ _) _)⟩
  by_cases h12 : kd = 12
  · subst h12
    go_upto_region 15 with fail
    obtain ⟨X, hX⟩ : ∃ X, X = ((((W.alloc (.cells #[.int .i64 x2, .int .i64 x3, .string x4, .string x5] 76)).alloc (.cells #[.string s, .string f, .int .i64 12, .int .i64 x2, .int .i64 x3, .string x4, .string x5] 89)).alloc (.cells #[.iface 112 (.agg #[.string s]), .string f] 78)).alloc (.cells #[.string s] 112)) := ⟨_, rfl⟩
    have bx : Below W.heap.size W X := by rw [hX]; exact bAl (bAl (bAl (bAl (Below.refl _ _) _) _) _) _
    have RX1 : RowIs X (W.heap.size + 1) #[.string s, .string f, .int .i64 12, .int .i64 x2, .int .i64 x3, .string x4, .string x5] 89 := by
      rw [hX]
      have h := ((RowIs.new (W.alloc (.cells #[.int .i64 x2, .int .i64 x3, .string x4, .string x5] 76)) #[.string s, .string f, .int .i64 12, .int .i64 x2, .int .i64 x3, .string x4, .string x5] 89).keep (bAl (Below.refl _ _) (.cells #[.iface 112 (.agg #[.string s]), .string f] 78))).keep (bAl (Below.refl _ _) (.cells #[.string s] 112))
      simpa using h
    have k10 := RX1.at (o := 0) (v := .string s) rfl
    have k11 := RX1.at (o := 1) (v := .string f) rfl
    have k12 := RX1.at (o := 2) (v := .int .i64 12) rfl
    have k13 := RX1.at (o := 3) (v := .int .i64 x2) rfl
    have k14 := RX1.at (o := 4) (v := .int .i64 x3) rfl
    have k15 := RX1.at (o := 5) (v := .string x4) rfl
    have k16 := RX1.at (o := 6) (v := .string x5) rfl
    clear RX1
    have RX3 : RowIs X (W.heap.size + 1 + 1 + 1) #[.string s] 112 := by
      rw [hX]
      have h := RowIs.new (((W.alloc (.cells #[.int .i64 x2, .int .i64 x3, .string x4, .string x5] 76)).alloc (.cells #[.string s, .string f, .int .i64 12, .int .i64 x2, .int .i64 x3, .string x4, .string x5] 89)).alloc (.cells #[.iface 112 (.agg #[.string s]), .string f] 78)) #[.string s] 112
      simpa using h
    have k30 := RX3.at (o := 0) (v := .string s) rfl
    clear RX3
    have RR := hide ((unhide N2).keep bx)
    have r0 := cellB bx z1 t0
    have BX := hide (bTr (unhide BW) bx)
    rw [← hX]
    clear hX bx t0 t1 t2
    have q0 := (unhide RR).at (o := 0) (v := .string ⟨#[]⟩) rfl
    have p0 := (unhide RR).froz 0
    have q1 := (unhide RR).at (o := 1) (v := .string ⟨#[]⟩) rfl
    have p1 := (unhide RR).froz 1
    have q2 := (unhide RR).at (o := 2) (v := .int .i64 0) rfl
    have p2 := (unhide RR).froz 2
    have q3 := (unhide RR).at (o := 3) (v := .int .i64 0) rfl
    have p3 := (unhide RR).froz 3
    have q4 := (unhide RR).at (o := 4) (v := .int .i64 0) rfl
    have p4 := (unhide RR).froz 4
    have q5 := (unhide RR).at (o := 5) (v := .string ⟨#[]⟩) rfl
    have p5 := (unhide RR).froz 5
    have q6 := (unhide RR).at (o := 6) (v := .string ⟨#[]⟩) rfl
    have p6 := (unhide RR).froz 6
    have cm : s = bAct ↔ (s.toList == [97, 99, 116, 105, 111, 110]) = true := bytes_is s _
    clear f1 f2 f3 f4
    go_upto_region 16 with fail
    clear r0
    cases d : (s.toList == [97, 99, 116, 105, 111, 110])
    · have yes : Hid P := hide ((unhide hP).2 ⟨(fun h => by rw [cm.1 h] at d; cases d), (by omega)⟩)
      clear cm hP
      have RZ := RowIs.set7n (u0 := .string s) (u1 := .string f) (u2 := .int .i64 12) (u3 := .int .i64 x2) (u4 := .int .i64 x3) (u5 := .string x4) (u6 := .string x5) (unhide RR)
      go_wp2_with fail
      refine bodyPost_ret (v := .tuple #[.agg #[.string s, .string f, .int .i64 12, .int .i64 x2, .int .i64 x3, .string x4, .string x5], .bool true]) ?_ rfl ?_
      · refine results_twoF rfl _ _ (w.heap.size + 1) 89 #[.string s, .string f, .int .i64 12, .int .i64 x2, .int .i64 x3, .string x4, .string x5] (0, 0) _ (.bool true) ?_ ?_ ?_ Tryz.underlying89 rfl ?_
        · rfl
        · rfl
        · exact RZ
        · kernel_rfl
      exact ⟨AskEnd.of ⟨fun _ => unhide yes, fun _ => rfl⟩, (Below.setCell (Below.setCell (Below.setCell (Below.setCell (Below.setCell (Below.setCell (Below.setCell (unhide BX) (Nat.le_succ _) _) (Nat.le_succ _) _) (Nat.le_succ _) _) (Nat.le_succ _) _) (Nat.le_succ _) _) (Nat.le_succ _) _) (Nat.le_succ _) _)⟩
    · have no : Hid (¬ P) := hide (fun h => ((unhide hP).1 h).1 (cm.2 d))
      clear cm hP
      have RZ := RowIs.set7n (u0 := .string s) (u1 := .string f) (u2 := .int .i64 12) (u3 := .int .i64 x2) (u4 := .int .i64 x3) (u5 := .string x4) (u6 := .string x5) (unhide RR)
      go_wp2_with fail
      refine bodyPost_ret (v := .tuple #[.agg #[.string s, .string f, .int .i64 12, .int .i64 x2, .int .i64 x3, .string x4, .string x5], .bool false]) ?_ rfl ?_
      · refine results_twoF rfl _ _ (w.heap.size + 1) 89 #[.string s, .string f, .int .i64 12, .int .i64 x2, .int .i64 x3, .string x4, .string x5] (0, 0) _ (.bool false) ?_ ?_ ?_ Tryz.underlying89 rfl ?_
        · rfl
        · rfl
        · exact RZ
        · kernel_rfl
      exact ⟨AskEnd.of ⟨fun h => (by cases h), fun h => absurd h (unhide no)⟩, (Below.setCell (Below.setCell (Below.setCell (Below.setCell (Below.setCell (Below.setCell (Below.setCell (unhide BX) (Nat.le_succ _) _) (Nat.le_succ _) _) (Nat.le_succ _) _) (Nat.le_succ _) _) (Nat.le_succ _) _) (Nat.le_succ _) _) (Nat.le_succ _) _)⟩
  by_cases h13 : kd = 13
  · subst h13
    go_upto_region 15 with fail
    obtain ⟨X, hX⟩ : ∃ X, X = ((((W.alloc (.cells #[.int .i64 x2, .int .i64 x3, .string x4, .string x5] 76)).alloc (.cells #[.string s, .string f, .int .i64 13, .int .i64 x2, .int .i64 x3, .string x4, .string x5] 89)).alloc (.cells #[.iface 112 (.agg #[.string s]), .string f] 78)).alloc (.cells #[.string s] 112)) := ⟨_, rfl⟩
    have bx : Below W.heap.size W X := by rw [hX]; exact bAl (bAl (bAl (bAl (Below.refl _ _) _) _) _) _
    have RX1 : RowIs X (W.heap.size + 1) #[.string s, .string f, .int .i64 13, .int .i64 x2, .int .i64 x3, .string x4, .string x5] 89 := by
      rw [hX]
      have h := ((RowIs.new (W.alloc (.cells #[.int .i64 x2, .int .i64 x3, .string x4, .string x5] 76)) #[.string s, .string f, .int .i64 13, .int .i64 x2, .int .i64 x3, .string x4, .string x5] 89).keep (bAl (Below.refl _ _) (.cells #[.iface 112 (.agg #[.string s]), .string f] 78))).keep (bAl (Below.refl _ _) (.cells #[.string s] 112))
      simpa using h
    have k10 := RX1.at (o := 0) (v := .string s) rfl
    have k11 := RX1.at (o := 1) (v := .string f) rfl
    have k12 := RX1.at (o := 2) (v := .int .i64 13) rfl
    have k13 := RX1.at (o := 3) (v := .int .i64 x2) rfl
    have k14 := RX1.at (o := 4) (v := .int .i64 x3) rfl
    have k15 := RX1.at (o := 5) (v := .string x4) rfl
    have k16 := RX1.at (o := 6) (v := .string x5) rfl
    clear RX1
    have RX3 : RowIs X (W.heap.size + 1 + 1 + 1) #[.string s] 112 := by
      rw [hX]
      have h := RowIs.new (((W.alloc (.cells #[.int .i64 x2, .int .i64 x3, .string x4, .string x5] 76)).alloc (.cells #[.string s, .string f, .int .i64 13, .int .i64 x2, .int .i64 x3, .string x4, .string x5] 89)).alloc (.cells #[.iface 112 (.agg #[.string s]), .string f] 78)) #[.string s] 112
      simpa using h
    have k30 := RX3.at (o := 0) (v := .string s) rfl
    clear RX3
    have RR := hide ((unhide N2).keep bx)
    have r0 := cellB bx z1 t0
    have BX := hide (bTr (unhide BW) bx)
    rw [← hX]
    clear hX bx t0 t1 t2
    have q0 := (unhide RR).at (o := 0) (v := .string ⟨#[]⟩) rfl
    have p0 := (unhide RR).froz 0
    have q1 := (unhide RR).at (o := 1) (v := .string ⟨#[]⟩) rfl
    have p1 := (unhide RR).froz 1
    have q2 := (unhide RR).at (o := 2) (v := .int .i64 0) rfl
    have p2 := (unhide RR).froz 2
    have q3 := (unhide RR).at (o := 3) (v := .int .i64 0) rfl
    have p3 := (unhide RR).froz 3
    have q4 := (unhide RR).at (o := 4) (v := .int .i64 0) rfl
    have p4 := (unhide RR).froz 4
    have q5 := (unhide RR).at (o := 5) (v := .string ⟨#[]⟩) rfl
    have p5 := (unhide RR).froz 5
    have q6 := (unhide RR).at (o := 6) (v := .string ⟨#[]⟩) rfl
    have p6 := (unhide RR).froz 6
    have cm : s = bAct ↔ (s.toList == [97, 99, 116, 105, 111, 110]) = true := bytes_is s _
    clear f1 f2 f3 f4
    go_upto_region 16 with fail
    clear r0
    cases d : (s.toList == [97, 99, 116, 105, 111, 110])
    · have yes : Hid P := hide ((unhide hP).2 ⟨(fun h => by rw [cm.1 h] at d; cases d), (by omega)⟩)
      clear cm hP
      have RZ := RowIs.set7n (u0 := .string s) (u1 := .string f) (u2 := .int .i64 13) (u3 := .int .i64 x2) (u4 := .int .i64 x3) (u5 := .string x4) (u6 := .string x5) (unhide RR)
      go_wp2_with fail
      refine bodyPost_ret (v := .tuple #[.agg #[.string s, .string f, .int .i64 13, .int .i64 x2, .int .i64 x3, .string x4, .string x5], .bool true]) ?_ rfl ?_
      · refine results_twoF rfl _ _ (w.heap.size + 1) 89 #[.string s, .string f, .int .i64 13, .int .i64 x2, .int .i64 x3, .string x4, .string x5] (0, 0) _ (.bool true) ?_ ?_ ?_ Tryz.underlying89 rfl ?_
        · rfl
        · rfl
        · exact RZ
        · kernel_rfl
      exact ⟨AskEnd.of ⟨fun _ => unhide yes, fun _ => rfl⟩, (Below.setCell (Below.setCell (Below.setCell (Below.setCell (Below.setCell (Below.setCell (Below.setCell (unhide BX) (Nat.le_succ _) _) (Nat.le_succ _) _) (Nat.le_succ _) _) (Nat.le_succ _) _) (Nat.le_succ _) _) (Nat.le_succ _) _) (Nat.le_succ _) _)⟩
    · have no : Hid (¬ P) := hide (fun h => ((unhide hP).1 h).1 (cm.2 d))
      clear cm hP
      have RZ := RowIs.set7n (u0 := .string s) (u1 := .string f) (u2 := .int .i64 13) (u3 := .int .i64 x2) (u4 := .int .i64 x3) (u5 := .string x4) (u6 := .string x5) (unhide RR)
      go_wp2_with fail
      refine bodyPost_ret (v := .tuple #[.agg #[.string s, .string f, .int .i64 13, .int .i64 x2, .int .i64 x3, .string x4, .string x5], .bool false]) ?_ rfl ?_
      · refine results_twoF rfl _ _ (w.heap.size + 1) 89 #[.string s, .string f, .int .i64 13, .int .i64 x2, .int .i64 x3, .string x4, .string x5] (0, 0) _ (.bool false) ?_ ?_ ?_ Tryz.underlying89 rfl ?_
        · rfl
        · rfl
        · exact RZ
        · kernel_rfl
      exact ⟨AskEnd.of ⟨fun h => (by cases h), fun h => absurd h (unhide no)⟩, (Below.setCell (Below.setCell (Below.setCell (Below.setCell (Below.setCell (Below.setCell (Below.setCell (unhide BX) (Nat.le_succ _) _) (Nat.le_succ _) _) (Nat.le_succ _) _) (Nat.le_succ _) _) (Nat.le_succ _) _) (Nat.le_succ _) _) (Nat.le_succ _) _)⟩
  by_cases h18 : kd = 18
  · subst h18
    go_upto_region 15 with fail
    obtain ⟨X, hX⟩ : ∃ X, X = ((((W.alloc (.cells #[.int .i64 x2, .int .i64 x3, .string x4, .string x5] 76)).alloc (.cells #[.string s, .string f, .int .i64 18, .int .i64 x2, .int .i64 x3, .string x4, .string x5] 89)).alloc (.cells #[.iface 112 (.agg #[.string s]), .string f] 78)).alloc (.cells #[.string s] 112)) := ⟨_, rfl⟩
    have bx : Below W.heap.size W X := by rw [hX]; exact bAl (bAl (bAl (bAl (Below.refl _ _) _) _) _) _
    have RX1 : RowIs X (W.heap.size + 1) #[.string s, .string f, .int .i64 18, .int .i64 x2, .int .i64 x3, .string x4, .string x5] 89 := by
      rw [hX]
      have h := ((RowIs.new (W.alloc (.cells #[.int .i64 x2, .int .i64 x3, .string x4, .string x5] 76)) #[.string s, .string f, .int .i64 18, .int .i64 x2, .int .i64 x3, .string x4, .string x5] 89).keep (bAl (Below.refl _ _) (.cells #[.iface 112 (.agg #[.string s]), .string f] 78))).keep (bAl (Below.refl _ _) (.cells #[.string s] 112))
      simpa using h
    have k10 := RX1.at (o := 0) (v := .string s) rfl
    have k11 := RX1.at (o := 1) (v := .string f) rfl
    have k12 := RX1.at (o := 2) (v := .int .i64 18) rfl
    have k13 := RX1.at (o := 3) (v := .int .i64 x2) rfl
    have k14 := RX1.at (o := 4) (v := .int .i64 x3) rfl
    have k15 := RX1.at (o := 5) (v := .string x4) rfl
    have k16 := RX1.at (o := 6) (v := .string x5) rfl
    clear RX1
    have RX3 : RowIs X (W.heap.size + 1 + 1 + 1) #[.string s] 112 := by
      rw [hX]
      have h := RowIs.new (((W.alloc (.cells #[.int .i64 x2, .int .i64 x3, .string x4, .string x5] 76)).alloc (.cells #[.string s, .string f, .int .i64 18, .int .i64 x2, .int .i64 x3, .string x4, .string x5] 89)).alloc (.cells #[.iface 112 (.agg #[.string s]), .string f] 78)) #[.string s] 112
      simpa using h
    have k30 := RX3.at (o := 0) (v := .string s) rfl
    clear RX3
    have RR := hide ((unhide N2).keep bx)
    have r0 := cellB bx z1 t0
    have BX := hide (bTr (unhide BW) bx)
    rw [← hX]
    clear hX bx t0 t1 t2
    have q0 := (unhide RR).at (o := 0) (v := .string ⟨#[]⟩) rfl
    have p0 := (unhide RR).froz 0
    have q1 := (unhide RR).at (o := 1) (v := .string ⟨#[]⟩) rfl
    have p1 := (unhide RR).froz 1
    have q2 := (unhide RR).at (o := 2) (v := .int .i64 0) rfl
    have p2 := (unhide RR).froz 2
    have q3 := (unhide RR).at (o := 3) (v := .int .i64 0) rfl
    have p3 := (unhide RR).froz 3
    have q4 := (unhide RR).at (o := 4) (v := .int .i64 0) rfl
    have p4 := (unhide RR).froz 4
    have q5 := (unhide RR).at (o := 5) (v := .string ⟨#[]⟩) rfl
    have p5 := (unhide RR).froz 5
    have q6 := (unhide RR).at (o := 6) (v := .string ⟨#[]⟩) rfl
    have p6 := (unhide RR).froz 6
    have cm : s = bAct ↔ (s.toList == [97, 99, 116, 105, 111, 110]) = true := bytes_is s _
    clear f1 f2 f3 f4
    go_upto_region 16 with fail
    clear r0
    cases d : (s.toList == [97, 99, 116, 105, 111, 110])
    · have yes : Hid P := hide ((unhide hP).2 ⟨(fun h => by rw [cm.1 h] at d; cases d), (by omega)⟩)
      clear cm hP
      have RZ := RowIs.set7n (u0 := .string s) (u1 := .string f) (u2 := .int .i64 18) (u3 := .int .i64 x2) (u4 := .int .i64 x3) (u5 := .string x4) (u6 := .string x5) (unhide RR)
      go_wp2_with fail
      refine bodyPost_ret (v := .tuple #[.agg #[.string s, .string f, .int .i64 18, .int .i64 x2, .int .i64 x3, .string x4, .string x5], .bool true]) ?_ rfl ?_
      · refine results_twoF rfl _ _ (w.heap.size + 1) 89 #[.string s, .string f, .int .i64 18, .int .i64 x2, .int .i64 x3, .string x4, .string x5] (0, 0) _ (.bool true) ?_ ?_ ?_ Tryz.underlying89 rfl ?_
        · rfl
        · rfl
        · exact RZ
        · kernel_rfl
      exact ⟨AskEnd.of ⟨fun _ => unhide yes, fun _ => rfl⟩, (Below.setCell (Below.setCell (Below.setCell (Below.setCell (Below.setCell (Below.setCell (Below.setCell (unhide BX) (Nat.le_succ _) _) (Nat.le_succ _) _) (Nat.le_succ _) _) (Nat.le_succ _) _) (Nat.le_succ _) _) (Nat.le_succ _) _) (Nat.le_succ _) _)⟩
    · have no : Hid (¬ P) := hide (fun h => ((unhide hP).1 h).1 (cm.2 d))
      clear cm hP
      have RZ := RowIs.set7n (u0 := .string s) (u1 := .string f) (u2 := .int .i64 18) (u3 := .int .i64 x2) (u4 := .int .i64 x3) (u5 := .string x4) (u6 := .string x5) (unhide RR)
      go_wp2_with fail
      refine bodyPost_ret (v := .tuple #[.agg #[.string s, .string f, .int .i64 18, .int .i64 x2, .int .i64 x3, .string x4, .string x5], .bool false]) ?_ rfl ?_
      · refine results_twoF rfl _ _ (w.heap.size + 1) 89 #[.string s, .string f, .int .i64 18, .int .i64 x2, .int .i64 x3, .string x4, .string x5] (0, 0) _ (.bool false) ?_ ?_ ?_ Tryz.underlying89 rfl ?_
        · rfl
        · rfl
        · exact RZ
        · kernel_rfl
      exact ⟨AskEnd.of ⟨fun h => (by cases h), fun h => absurd h (unhide no)⟩, (Below.setCell (Below.setCell (Below.setCell (Below.setCell (Below.setCell (Below.setCell (Below.setCell (unhide BX) (Nat.le_succ _) _) (Nat.le_succ _) _) (Nat.le_succ _) _) (Nat.le_succ _) _) (Nat.le_succ _) _) (Nat.le_succ _) _) (Nat.le_succ _) _)⟩
  have e11 : (kd == 11) = false := by simpa using h11
  have e12 : (kd == 12) = false := by simpa using h12
  have e13 : (kd == 13) = false := by simpa using h13
  have e18 : (kd == 18) = false := by simpa using h18
  go_upto_region 15 with fail
  obtain ⟨X, hX⟩ : ∃ X, X = ((((W.alloc (.cells #[.int .i64 x2, .int .i64 x3, .string x4, .string x5] 76)).alloc (.cells #[.string s, .string f, .int .i64 kd, .int .i64 x2, .int .i64 x3, .string x4, .string x5] 89)).alloc (.cells #[.iface 112 (.agg #[.string s]), .string f] 78)).alloc (.cells #[.string s] 112)) := ⟨_, rfl⟩
  have bx : Below W.heap.size W X := by rw [hX]; exact bAl (bAl (bAl (bAl (Below.refl _ _) _) _) _) _
  have RX1 : RowIs X (W.heap.size + 1) #[.string s, .string f, .int .i64 kd, .int .i64 x2, .int .i64 x3, .string x4, .string x5] 89 := by
    rw [hX]
    have h := ((RowIs.new (W.alloc (.cells #[.int .i64 x2, .int .i64 x3, .string x4, .string x5] 76)) #[.string s, .string f, .int .i64 kd, .int .i64 x2, .int .i64 x3, .string x4, .string x5] 89).keep (bAl (Below.refl _ _) (.cells #[.iface 112 (.agg #[.string s]), .string f] 78))).keep (bAl (Below.refl _ _) (.cells #[.string s] 112))
    simpa using h
  have k10 := RX1.at (o := 0) (v := .string s) rfl
  have k11 := RX1.at (o := 1) (v := .string f) rfl
  have k12 := RX1.at (o := 2) (v := .int .i64 kd) rfl
  have k13 := RX1.at (o := 3) (v := .int .i64 x2) rfl
  have k14 := RX1.at (o := 4) (v := .int .i64 x3) rfl
  have k15 := RX1.at (o := 5) (v := .string x4) rfl
  have k16 := RX1.at (o := 6) (v := .string x5) rfl
  clear RX1
  have RX3 : RowIs X (W.heap.size + 1 + 1 + 1) #[.string s] 112 := by
    rw [hX]
    have h := RowIs.new (((W.alloc (.cells #[.int .i64 x2, .int .i64 x3, .string x4, .string x5] 76)).alloc (.cells #[.string s, .string f, .int .i64 kd, .int .i64 x2, .int .i64 x3, .string x4, .string x5] 89)).alloc (.cells #[.iface 112 (.agg #[.string s]), .string f] 78)) #[.string s] 112
    simpa using h
  have k30 := RX3.at (o := 0) (v := .string s) rfl
  clear RX3
  have RR := hide ((unhide N2).keep bx)
  have r0 := cellB bx z1 t0
  have BX := hide (bTr (unhide BW) bx)
  rw [← hX]
  clear hX bx t0 t1 t2
  have q0 := (unhide RR).at (o := 0) (v := .string ⟨#[]⟩) rfl
  have p0 := (unhide RR).froz 0
  have q1 := (unhide RR).at (o := 1) (v := .string ⟨#[]⟩) rfl
  have p1 := (unhide RR).froz 1
  have q2 := (unhide RR).at (o := 2) (v := .int .i64 0) rfl
  have p2 := (unhide RR).froz 2
  have q3 := (unhide RR).at (o := 3) (v := .int .i64 0) rfl
  have p3 := (unhide RR).froz 3
  have q4 := (unhide RR).at (o := 4) (v := .int .i64 0) rfl
  have p4 := (unhide RR).froz 4
  have q5 := (unhide RR).at (o := 5) (v := .string ⟨#[]⟩) rfl
  have p5 := (unhide RR).froz 5
  have q6 := (unhide RR).at (o := 6) (v := .string ⟨#[]⟩) rfl
  have p6 := (unhide RR).froz 6
  have cm : s = bAct ↔ (s.toList == [97, 99, 116, 105, 111, 110]) = true := bytes_is s _
  clear f1 f2 f3 f4
  go_upto_region 16 with fail
  clear r0
  cases d : (s.toList == [97, 99, 116, 105, 111, 110])
  · have no : Hid (¬ P) := hide (fun h => by have := ((unhide hP).1 h).2; omega)
    clear cm hP
    have RZ := RowIs.set7n (u0 := .string s) (u1 := .string f) (u2 := .int .i64 kd) (u3 := .int .i64 x2) (u4 := .int .i64 x3) (u5 := .string x4) (u6 := .string x5) (unhide RR)
    go_wp2_with fail
    refine bodyPost_ret (v := .tuple #[.agg #[.string s, .string f, .int .i64 kd, .int .i64 x2, .int .i64 x3, .string x4, .string x5], .bool false]) ?_ rfl ?_
    · refine results_twoF rfl _ _ (w.heap.size + 1) 89 #[.string s, .string f, .int .i64 kd, .int .i64 x2, .int .i64 x3, .string x4, .string x5] (0, 0) _ (.bool false) ?_ ?_ ?_ Tryz.underlying89 rfl ?_
      · rfl
      · rfl
      · exact RZ
      · kernel_rfl
    exact ⟨AskEnd.of ⟨fun h => (by cases h), fun h => absurd h (unhide no)⟩, (Below.setCell (Below.setCell (Below.setCell (Below.setCell (Below.setCell (Below.setCell (Below.setCell (unhide BX) (Nat.le_succ _) _) (Nat.le_succ _) _) (Nat.le_succ _) _) (Nat.le_succ _) _) (Nat.le_succ _) _) (Nat.le_succ _) _) (Nat.le_succ _) _)⟩
  · have no : Hid (¬ P) := hide (fun h => ((unhide hP).1 h).1 (cm.2 d))
    clear cm hP
    have RZ := RowIs.set7n (u0 := .string s) (u1 := .string f) (u2 := .int .i64 kd) (u3 := .int .i64 x2) (u4 := .int .i64 x3) (u5 := .string x4) (u6 := .string x5) (unhide RR)
    go_wp2_with fail
    refine bodyPost_ret (v := .tuple #[.agg #[.string s, .string f, .int .i64 kd, .int .i64 x2, .int .i64 x3, .string x4, .string x5], .bool false]) ?_ rfl ?_
    · refine results_twoF rfl _ _ (w.heap.size + 1) 89 #[.string s, .string f, .int .i64 kd, .int .i64 x2, .int .i64 x3, .string x4, .string x5] (0, 0) _ (.bool false) ?_ ?_ ?_ Tryz.underlying89 rfl ?_
      · rfl
      · rfl
      · exact RZ
      · kernel_rfl
    exact ⟨AskEnd.of ⟨fun h => (by cases h), fun h => absurd h (unhide no)⟩, (Below.setCell (Below.setCell (Below.setCell (Below.setCell (Below.setCell (Below.setCell (Below.setCell (unhide BX) (Nat.le_succ _) _) (Nat.le_succ _) _) (Nat.le_succ _) _) (Nat.le_succ _) _) (Nat.le_succ _) _) (Nat.le_succ _) _) (Nat.le_succ _) _)⟩
set_option maxRecDepth 20000 in
set_option maxHeartbeats 2000000 in
theorem litAsk_getno (P : Prop) (x2 x3 : Int) (x4 x5 : ByteArray) (T : TypeId) (u : Value) (f : ByteArray) (kd : Int) (T0 T1 : TypeId) (u0 u1 : Value) (w : World)
    (q : ∀ w : World, Calls Tryz.prog 60 #[.agg #[.int .i64 kd, .iface T0 u0, .iface T1 u1]] w fun e w' => e = .returned (.agg #[.int .i64 kd, .iface 78 (.agg #[.iface T u, .string f]), .iface 76 (.agg #[.int .i64 x2, .int .i64 x3, .string x4, .string x5])]) ∧ Below w.heap.size w w')
    (no : Hid (¬ P))
    (f4 : ∀ w : World, (Instr.typeAssert (.iface T u) 55 112 true).run Tryz.prog w = .ok (.tuple #[.agg #[.string ⟨#[]⟩], .bool false]) w) :
    Calls Tryz.prog 39 #[.agg #[.int .i64 kd, .iface T0 u0, .iface T1 u1]] w fun e w' => AskEnd e P ∧ Below w.heap.size w w' := by
  have Q := hide q
  have R1 := hide ((RowIs.new w #[.int .i64 kd, .iface T0 u0, .iface T1 u1] 85).keep (bAl (Below.refl _ _) (.cells #[.string ⟨#[]⟩, .string ⟨#[]⟩, .int .i64 0, .int .i64 0, .int .i64 0, .string ⟨#[]⟩, .string ⟨#[]⟩] 89)))
  have R2 := hide (RowIs.new (w.alloc (.cells #[.int .i64 kd, .iface T0 u0, .iface T1 u1] 85)) #[.string ⟨#[]⟩, .string ⟨#[]⟩, .int .i64 0, .int .i64 0, .int .i64 0, .string ⟨#[]⟩, .string ⟨#[]⟩] 89)
  have B0 := hide (bAl (bAl (Below.refl w.heap.size w) (.cells #[.int .i64 kd, .iface T0 u0, .iface T1 u1] 85)) (.cells #[.string ⟨#[]⟩, .string ⟨#[]⟩, .int .i64 0, .int .i64 0, .int .i64 0, .string ⟨#[]⟩, .string ⟨#[]⟩] 89))
  clear q
  go_enter Tryz.func39, Tryz.ntmps39
  go_wp2_with fail
  refine (unhide Q _).mono ?_
  rintro e w1 ⟨rfl, hb1⟩
  have S1 := hide ((unhide R1).keep hb1)
  have S2 := hide ((unhide R2).keep hb1)
  have B1 := hide (bTr (unhide B0) hb1)
  have es : (w.alloc (.cells #[.int .i64 kd, .iface T0 u0, .iface T1 u1] 85)).heap.size = w.heap.size + 1 := by simp
  rw [es] at S2
  clear hb1 R1 R2 B0 Q es
  obtain ⟨W, hW⟩ : ∃ W, W = w1.setRow w.heap.size #[.int .i64 kd, .iface 78 (.agg #[.iface T u, .string f]), .iface 76 (.agg #[.int .i64 x2, .int .i64 x3, .string x4, .string x5])] := ⟨_, rfl⟩
  have BW : Hid (Below w.heap.size w W) := hide (by rw [hW]; exact bRowY (unhide B1) (Nat.le_refl _) _)
  have N1 : RowIs W w.heap.size #[.int .i64 kd, .iface 78 (.agg #[.iface T u, .string f]), .iface 76 (.agg #[.int .i64 x2, .int .i64 x3, .string x4, .string x5])] 85 := by rw [hW]; exact setRow_heap _ _ _ _ _ _ (unhide S1)
  have N2 := hide (show RowIs W (w.heap.size + 1) #[.string ⟨#[]⟩, .string ⟨#[]⟩, .int .i64 0, .int .i64 0, .int .i64 0, .string ⟨#[]⟩, .string ⟨#[]⟩] 89 by
    rw [hW]; unfold RowIs; rw [setRow_other _ _ _ _ (by omega)]; exact unhide S2)
  have HW := hide hW.symm
  have t0 := N1.at (o := 0) (v := .int .i64 kd) rfl
  have t1 := N1.at (o := 1) (v := .iface 78 (.agg #[.iface T u, .string f])) rfl
  have t2 := N1.at (o := 2) (v := .iface 76 (.agg #[.int .i64 x2, .int .i64 x3, .string x4, .string x5])) rfl
  have z1 := N1.lt
  have z2 := (unhide N2).lt
  clear hW N1
  iterate 2 (try (first | go_values | go_skip | go_guarded | go_step | go_upon | go_simp))
  refine wpList_store_row rfl 85 _ _ rfl w.heap.size #[.int .i64 kd, .iface 78 (.agg #[.iface T u, .string f]), .iface 76 (.agg #[.int .i64 x2, .int .i64 x3, .string x4, .string x5])] rfl rfl 85 _ (unhide S1) (by kernel_rfl) rfl (by simp [Value.oneCell']) ?_
  rw [unhide HW]
  clear HW S1 S2 B1
  have f1 := ta_lit_lit (.agg #[.int .i64 x2, .int .i64 x3, .string x4, .string x5])
  have f2 := ta_get_var (.agg #[.iface T u, .string f])
  have f3 := ta_get_get (.agg #[.iface T u, .string f])
  by_cases h11 : kd = 11
  · subst h11
    go_upto_region 15 with fail
    obtain ⟨X, hX⟩ : ∃ X, X = ((((W.alloc (.cells #[.int .i64 x2, .int .i64 x3, .string x4, .string x5] 76)).alloc (.cells #[.string ⟨#[]⟩, .string f, .int .i64 11, .int .i64 x2, .int .i64 x3, .string x4, .string x5] 89)).alloc (.cells #[.iface T u, .string f] 78)).alloc (.cells #[.string ⟨#[]⟩] 112)) := ⟨_, rfl⟩
    have bx : Below W.heap.size W X := by rw [hX]; exact bAl (bAl (bAl (bAl (Below.refl _ _) _) _) _) _
    have RX1 : RowIs X (W.heap.size + 1) #[.string ⟨#[]⟩, .string f, .int .i64 11, .int .i64 x2, .int .i64 x3, .string x4, .string x5] 89 := by
      rw [hX]
      have h := ((RowIs.new (W.alloc (.cells #[.int .i64 x2, .int .i64 x3, .string x4, .string x5] 76)) #[.string ⟨#[]⟩, .string f, .int .i64 11, .int .i64 x2, .int .i64 x3, .string x4, .string x5] 89).keep (bAl (Below.refl _ _) (.cells #[.iface T u, .string f] 78))).keep (bAl (Below.refl _ _) (.cells #[.string ⟨#[]⟩] 112))
      simpa using h
    have k10 := RX1.at (o := 0) (v := .string ⟨#[]⟩) rfl
    have k11 := RX1.at (o := 1) (v := .string f) rfl
    have k12 := RX1.at (o := 2) (v := .int .i64 11) rfl
    have k13 := RX1.at (o := 3) (v := .int .i64 x2) rfl
    have k14 := RX1.at (o := 4) (v := .int .i64 x3) rfl
    have k15 := RX1.at (o := 5) (v := .string x4) rfl
    have k16 := RX1.at (o := 6) (v := .string x5) rfl
    clear RX1
    have RX3 : RowIs X (W.heap.size + 1 + 1 + 1) #[.string ⟨#[]⟩] 112 := by
      rw [hX]
      have h := RowIs.new (((W.alloc (.cells #[.int .i64 x2, .int .i64 x3, .string x4, .string x5] 76)).alloc (.cells #[.string ⟨#[]⟩, .string f, .int .i64 11, .int .i64 x2, .int .i64 x3, .string x4, .string x5] 89)).alloc (.cells #[.iface T u, .string f] 78)) #[.string ⟨#[]⟩] 112
      simpa using h
    have k30 := RX3.at (o := 0) (v := .string ⟨#[]⟩) rfl
    clear RX3
    have RR := hide ((unhide N2).keep bx)
    have r0 := cellB bx z1 t0
    have BX := hide (bTr (unhide BW) bx)
    rw [← hX]
    clear hX bx t0 t1 t2
    have q0 := (unhide RR).at (o := 0) (v := .string ⟨#[]⟩) rfl
    have p0 := (unhide RR).froz 0
    have q1 := (unhide RR).at (o := 1) (v := .string ⟨#[]⟩) rfl
    have p1 := (unhide RR).froz 1
    have q2 := (unhide RR).at (o := 2) (v := .int .i64 0) rfl
    have p2 := (unhide RR).froz 2
    have q3 := (unhide RR).at (o := 3) (v := .int .i64 0) rfl
    have p3 := (unhide RR).froz 3
    have q4 := (unhide RR).at (o := 4) (v := .int .i64 0) rfl
    have p4 := (unhide RR).froz 4
    have q5 := (unhide RR).at (o := 5) (v := .string ⟨#[]⟩) rfl
    have p5 := (unhide RR).froz 5
    have q6 := (unhide RR).at (o := 6) (v := .string ⟨#[]⟩) rfl
    have p6 := (unhide RR).froz 6
    clear f1 f2 f3 f4
    go_upto_region 16 with fail
    clear r0
    have RZ := RowIs.set7n (u0 := .string ⟨#[]⟩) (u1 := .string f) (u2 := .int .i64 11) (u3 := .int .i64 x2) (u4 := .int .i64 x3) (u5 := .string x4) (u6 := .string x5) (unhide RR)
    go_wp2_with fail
    refine bodyPost_ret (v := .tuple #[.agg #[.string ⟨#[]⟩, .string f, .int .i64 11, .int .i64 x2, .int .i64 x3, .string x4, .string x5], .bool false]) ?_ rfl ?_
    · refine results_twoF rfl _ _ (w.heap.size + 1) 89 #[.string ⟨#[]⟩, .string f, .int .i64 11, .int .i64 x2, .int .i64 x3, .string x4, .string x5] (0, 0) _ (.bool false) ?_ ?_ ?_ Tryz.underlying89 rfl ?_
      · rfl
      · rfl
      · exact RZ
      · kernel_rfl
    exact ⟨AskEnd.of ⟨fun h => (by cases h), fun h => absurd h (unhide no)⟩, (Below.setCell (Below.setCell (Below.setCell (Below.setCell (Below.setCell (Below.setCell (Below.setCell (unhide BX) (Nat.le_succ _) _) (Nat.le_succ _) _) (Nat.le_succ _) _) (Nat.le_succ _) _) (Nat.le_succ _) _) (Nat.le_succ _) _) (Nat.le_succ _) _)⟩
  by_cases h12 : kd = 12
  · subst h12
    go_upto_region 15 with fail
    obtain ⟨X, hX⟩ : ∃ X, X = ((((W.alloc (.cells #[.int .i64 x2, .int .i64 x3, .string x4, .string x5] 76)).alloc (.cells #[.string ⟨#[]⟩, .string f, .int .i64 12, .int .i64 x2, .int .i64 x3, .string x4, .string x5] 89)).alloc (.cells #[.iface T u, .string f] 78)).alloc (.cells #[.string ⟨#[]⟩] 112)) := ⟨_, rfl⟩
    have bx : Below W.heap.size W X := by rw [hX]; exact bAl (bAl (bAl (bAl (Below.refl _ _) _) _) _) _
    have RX1 : RowIs X (W.heap.size + 1) #[.string ⟨#[]⟩, .string f, .int .i64 12, .int .i64 x2, .int .i64 x3, .string x4, .string x5] 89 := by
      rw [hX]
      have h := ((RowIs.new (W.alloc (.cells #[.int .i64 x2, .int .i64 x3, .string x4, .string x5] 76)) #[.string ⟨#[]⟩, .string f, .int .i64 12, .int .i64 x2, .int .i64 x3, .string x4, .string x5] 89).keep (bAl (Below.refl _ _) (.cells #[.iface T u, .string f] 78))).keep (bAl (Below.refl _ _) (.cells #[.string ⟨#[]⟩] 112))
      simpa using h
    have k10 := RX1.at (o := 0) (v := .string ⟨#[]⟩) rfl
    have k11 := RX1.at (o := 1) (v := .string f) rfl
    have k12 := RX1.at (o := 2) (v := .int .i64 12) rfl
    have k13 := RX1.at (o := 3) (v := .int .i64 x2) rfl
    have k14 := RX1.at (o := 4) (v := .int .i64 x3) rfl
    have k15 := RX1.at (o := 5) (v := .string x4) rfl
    have k16 := RX1.at (o := 6) (v := .string x5) rfl
    clear RX1
    have RX3 : RowIs X (W.heap.size + 1 + 1 + 1) #[.string ⟨#[]⟩] 112 := by
      rw [hX]
      have h := RowIs.new (((W.alloc (.cells #[.int .i64 x2, .int .i64 x3, .string x4, .string x5] 76)).alloc (.cells #[.string ⟨#[]⟩, .string f, .int .i64 12, .int .i64 x2, .int .i64 x3, .string x4, .string x5] 89)).alloc (.cells #[.iface T u, .string f] 78)) #[.string ⟨#[]⟩] 112
      simpa using h
    have k30 := RX3.at (o := 0) (v := .string ⟨#[]⟩) rfl
    clear RX3
    have RR := hide ((unhide N2).keep bx)
    have r0 := cellB bx z1 t0
    have BX := hide (bTr (unhide BW) bx)
    rw [← hX]
    clear hX bx t0 t1 t2
    have q0 := (unhide RR).at (o := 0) (v := .string ⟨#[]⟩) rfl
    have p0 := (unhide RR).froz 0
    have q1 := (unhide RR).at (o := 1) (v := .string ⟨#[]⟩) rfl
    have p1 := (unhide RR).froz 1
    have q2 := (unhide RR).at (o := 2) (v := .int .i64 0) rfl
    have p2 := (unhide RR).froz 2
    have q3 := (unhide RR).at (o := 3) (v := .int .i64 0) rfl
    have p3 := (unhide RR).froz 3
    have q4 := (unhide RR).at (o := 4) (v := .int .i64 0) rfl
    have p4 := (unhide RR).froz 4
    have q5 := (unhide RR).at (o := 5) (v := .string ⟨#[]⟩) rfl
    have p5 := (unhide RR).froz 5
    have q6 := (unhide RR).at (o := 6) (v := .string ⟨#[]⟩) rfl
    have p6 := (unhide RR).froz 6
    clear f1 f2 f3 f4
    go_upto_region 16 with fail
    clear r0
    have RZ := RowIs.set7n (u0 := .string ⟨#[]⟩) (u1 := .string f) (u2 := .int .i64 12) (u3 := .int .i64 x2) (u4 := .int .i64 x3) (u5 := .string x4) (u6 := .string x5) (unhide RR)
    go_wp2_with fail
    refine bodyPost_ret (v := .tuple #[.agg #[.string ⟨#[]⟩, .string f, .int .i64 12, .int .i64 x2, .int .i64 x3, .string x4, .string x5], .bool false]) ?_ rfl ?_
    · refine results_twoF rfl _ _ (w.heap.size + 1) 89 #[.string ⟨#[]⟩, .string f, .int .i64 12, .int .i64 x2, .int .i64 x3, .string x4, .string x5] (0, 0) _ (.bool false) ?_ ?_ ?_ Tryz.underlying89 rfl ?_
      · rfl
      · rfl
      · exact RZ
      · kernel_rfl
    exact ⟨AskEnd.of ⟨fun h => (by cases h), fun h => absurd h (unhide no)⟩, (Below.setCell (Below.setCell (Below.setCell (Below.setCell (Below.setCell (Below.setCell (Below.setCell (unhide BX) (Nat.le_succ _) _) (Nat.le_succ _) _) (Nat.le_succ _) _) (Nat.le_succ _) _) (Nat.le_succ _) _) (Nat.le_succ _) _) (Nat.le_succ _) _)⟩
  by_cases h13 : kd = 13
  · subst h13
    go_upto_region 15 with fail
    obtain ⟨X, hX⟩ : ∃ X, X = ((((W.alloc (.cells #[.int .i64 x2, .int .i64 x3, .string x4, .string x5] 76)).alloc (.cells #[.string ⟨#[]⟩, .string f, .int .i64 13, .int .i64 x2, .int .i64 x3, .string x4, .string x5] 89)).alloc (.cells #[.iface T u, .string f] 78)).alloc (.cells #[.string ⟨#[]⟩] 112)) := ⟨_, rfl⟩
    have bx : Below W.heap.size W X := by rw [hX]; exact bAl (bAl (bAl (bAl (Below.refl _ _) _) _) _) _
    have RX1 : RowIs X (W.heap.size + 1) #[.string ⟨#[]⟩, .string f, .int .i64 13, .int .i64 x2, .int .i64 x3, .string x4, .string x5] 89 := by
      rw [hX]
      have h := ((RowIs.new (W.alloc (.cells #[.int .i64 x2, .int .i64 x3, .string x4, .string x5] 76)) #[.string ⟨#[]⟩, .string f, .int .i64 13, .int .i64 x2, .int .i64 x3, .string x4, .string x5] 89).keep (bAl (Below.refl _ _) (.cells #[.iface T u, .string f] 78))).keep (bAl (Below.refl _ _) (.cells #[.string ⟨#[]⟩] 112))
      simpa using h
    have k10 := RX1.at (o := 0) (v := .string ⟨#[]⟩) rfl
    have k11 := RX1.at (o := 1) (v := .string f) rfl
    have k12 := RX1.at (o := 2) (v := .int .i64 13) rfl
    have k13 := RX1.at (o := 3) (v := .int .i64 x2) rfl
    have k14 := RX1.at (o := 4) (v := .int .i64 x3) rfl
    have k15 := RX1.at (o := 5) (v := .string x4) rfl
    have k16 := RX1.at (o := 6) (v := .string x5) rfl
    clear RX1
    have RX3 : RowIs X (W.heap.size + 1 + 1 + 1) #[.string ⟨#[]⟩] 112 := by
      rw [hX]
      have h := RowIs.new (((W.alloc (.cells #[.int .i64 x2, .int .i64 x3, .string x4, .string x5] 76)).alloc (.cells #[.string ⟨#[]⟩, .string f, .int .i64 13, .int .i64 x2, .int .i64 x3, .string x4, .string x5] 89)).alloc (.cells #[.iface T u, .string f] 78)) #[.string ⟨#[]⟩] 112
      simpa using h
    have k30 := RX3.at (o := 0) (v := .string ⟨#[]⟩) rfl
    clear RX3
    have RR := hide ((unhide N2).keep bx)
    have r0 := cellB bx z1 t0
    have BX := hide (bTr (unhide BW) bx)
    rw [← hX]
    clear hX bx t0 t1 t2
    have q0 := (unhide RR).at (o := 0) (v := .string ⟨#[]⟩) rfl
    have p0 := (unhide RR).froz 0
    have q1 := (unhide RR).at (o := 1) (v := .string ⟨#[]⟩) rfl
    have p1 := (unhide RR).froz 1
    have q2 := (unhide RR).at (o := 2) (v := .int .i64 0) rfl
    have p2 := (unhide RR).froz 2
    have q3 := (unhide RR).at (o := 3) (v := .int .i64 0) rfl
    have p3 := (unhide RR).froz 3
    have q4 := (unhide RR).at (o := 4) (v := .int .i64 0) rfl
    have p4 := (unhide RR).froz 4
    have q5 := (unhide RR).at (o := 5) (v := .string ⟨#[]⟩) rfl
    have p5 := (unhide RR).froz 5
    have q6 := (unhide RR).at (o := 6) (v := .string ⟨#[]⟩) rfl
    have p6 := (unhide RR).froz 6
    clear f1 f2 f3 f4
    go_upto_region 16 with fail
    clear r0
    have RZ := RowIs.set7n (u0 := .string ⟨#[]⟩) (u1 := .string f) (u2 := .int .i64 13) (u3 := .int .i64 x2) (u4 := .int .i64 x3) (u5 := .string x4) (u6 := .string x5) (unhide RR)
    go_wp2_with fail
    refine bodyPost_ret (v := .tuple #[.agg #[.string ⟨#[]⟩, .string f, .int .i64 13, .int .i64 x2, .int .i64 x3, .string x4, .string x5], .bool false]) ?_ rfl ?_
    · refine results_twoF rfl _ _ (w.heap.size + 1) 89 #[.string ⟨#[]⟩, .string f, .int .i64 13, .int .i64 x2, .int .i64 x3, .string x4, .string x5] (0, 0) _ (.bool false) ?_ ?_ ?_ Tryz.underlying89 rfl ?_
      · rfl
      · rfl
      · exact RZ
      · kernel_rfl
    exact ⟨AskEnd.of ⟨fun h => (by cases h), fun h => absurd h (unhide no)⟩, (Below.setCell (Below.setCell (Below.setCell (Below.setCell (Below.setCell (Below.setCell (Below.setCell (unhide BX) (Nat.le_succ _) _) (Nat.le_succ _) _) (Nat.le_succ _) _) (Nat.le_succ _) _) (Nat.le_succ _) _) (Nat.le_succ _) _) (Nat.le_succ _) _)⟩
  by_cases h18 : kd = 18
  · subst h18
    go_upto_region 15 with fail
    obtain ⟨X, hX⟩ : ∃ X, X = ((((W.alloc (.cells #[.int .i64 x2, .int .i64 x3, .string x4, .string x5] 76)).alloc (.cells #[.string ⟨#[]⟩, .string f, .int .i64 18, .int .i64 x2, .int .i64 x3, .string x4, .string x5] 89)).alloc (.cells #[.iface T u, .string f] 78)).alloc (.cells #[.string ⟨#[]⟩] 112)) := ⟨_, rfl⟩
    have bx : Below W.heap.size W X := by rw [hX]; exact bAl (bAl (bAl (bAl (Below.refl _ _) _) _) _) _
    have RX1 : RowIs X (W.heap.size + 1) #[.string ⟨#[]⟩, .string f, .int .i64 18, .int .i64 x2, .int .i64 x3, .string x4, .string x5] 89 := by
      rw [hX]
      have h := ((RowIs.new (W.alloc (.cells #[.int .i64 x2, .int .i64 x3, .string x4, .string x5] 76)) #[.string ⟨#[]⟩, .string f, .int .i64 18, .int .i64 x2, .int .i64 x3, .string x4, .string x5] 89).keep (bAl (Below.refl _ _) (.cells #[.iface T u, .string f] 78))).keep (bAl (Below.refl _ _) (.cells #[.string ⟨#[]⟩] 112))
      simpa using h
    have k10 := RX1.at (o := 0) (v := .string ⟨#[]⟩) rfl
    have k11 := RX1.at (o := 1) (v := .string f) rfl
    have k12 := RX1.at (o := 2) (v := .int .i64 18) rfl
    have k13 := RX1.at (o := 3) (v := .int .i64 x2) rfl
    have k14 := RX1.at (o := 4) (v := .int .i64 x3) rfl
    have k15 := RX1.at (o := 5) (v := .string x4) rfl
    have k16 := RX1.at (o := 6) (v := .string x5) rfl
    clear RX1
    have RX3 : RowIs X (W.heap.size + 1 + 1 + 1) #[.string ⟨#[]⟩] 112 := by
      rw [hX]
      have h := RowIs.new (((W.alloc (.cells #[.int .i64 x2, .int .i64 x3, .string x4, .string x5] 76)).alloc (.cells #[.string ⟨#[]⟩, .string f, .int .i64 18, .int .i64 x2, .int .i64 x3, .string x4, .string x5] 89)).alloc (.cells #[.iface T u, .string f] 78)) #[.string ⟨#[]⟩] 112
      simpa using h
    have k30 := RX3.at (o := 0) (v := .string ⟨#[]⟩) rfl
    clear RX3
    have RR := hide ((unhide N2).keep bx)
    have r0 := cellB bx z1 t0
    have BX := hide (bTr (unhide BW) bx)
    rw [← hX]
    clear hX bx t0 t1 t2
    have q0 := (unhide RR).at (o := 0) (v := .string ⟨#[]⟩) rfl
    have p0 := (unhide RR).froz 0
    have q1 := (unhide RR).at (o := 1) (v := .string ⟨#[]⟩) rfl
    have p1 := (unhide RR).froz 1
    have q2 := (unhide RR).at (o := 2) (v := .int .i64 0) rfl
    have p2 := (unhide RR).froz 2
    have q3 := (unhide RR).at (o := 3) (v := .int .i64 0) rfl
    have p3 := (unhide RR).froz 3
    have q4 := (unhide RR).at (o := 4) (v := .int .i64 0) rfl
    have p4 := (unhide RR).froz 4
    have q5 := (unhide RR).at (o := 5) (v := .string ⟨#[]⟩) rfl
    have p5 := (unhide RR).froz 5
    have q6 := (unhide RR).at (o := 6) (v := .string ⟨#[]⟩) rfl
    have p6 := (unhide RR).froz 6
    clear f1 f2 f3 f4
    go_upto_region 16 with fail
    clear r0
    have RZ := RowIs.set7n (u0 := .string ⟨#[]⟩) (u1 := .string f) (u2 := .int .i64 18) (u3 := .int .i64 x2) (u4 := .int .i64 x3) (u5 := .string x4) (u6 := .string x5) (unhide RR)
    go_wp2_with fail
    refine bodyPost_ret (v := .tuple #[.agg #[.string ⟨#[]⟩, .string f, .int .i64 18, .int .i64 x2, .int .i64 x3, .string x4, .string x5], .bool false]) ?_ rfl ?_
    · refine results_twoF rfl _ _ (w.heap.size + 1) 89 #[.string ⟨#[]⟩, .string f, .int .i64 18, .int .i64 x2, .int .i64 x3, .string x4, .string x5] (0, 0) _ (.bool false) ?_ ?_ ?_ Tryz.underlying89 rfl ?_
      · rfl
      · rfl
      · exact RZ
      · kernel_rfl
    exact ⟨AskEnd.of ⟨fun h => (by cases h), fun h => absurd h (unhide no)⟩, (Below.setCell (Below.setCell (Below.setCell (Below.setCell (Below.setCell (Below.setCell (Below.setCell (unhide BX) (Nat.le_succ _) _) (Nat.le_succ _) _) (Nat.le_succ _) _) (Nat.le_succ _) _) (Nat.le_succ _) _) (Nat.le_succ _) _) (Nat.le_succ _) _)⟩
  have e11 : (kd == 11) = false := by simpa using h11
  have e12 : (kd == 12) = false := by simpa using h12
  have e13 : (kd == 13) = false := by simpa using h13
  have e18 : (kd == 18) = false := by simpa using h18
  go_upto_region 15 with fail
  obtain ⟨X, hX⟩ : ∃ X, X = ((((W.alloc (.cells #[.int .i64 x2, .int .i64 x3, .string x4, .string x5] 76)).alloc (.cells #[.string ⟨#[]⟩, .string f, .int .i64 kd, .int .i64 x2, .int .i64 x3, .string x4, .string x5] 89)).alloc (.cells #[.iface T u, .string f] 78)).alloc (.cells #[.string ⟨#[]⟩] 112)) := ⟨_, rfl⟩
  have bx : Below W.heap.size W X := by rw [hX]; exact bAl (bAl (bAl (bAl (Below.refl _ _) _) _) _) _
  have RX1 : RowIs X (W.heap.size + 1) #[.string ⟨#[]⟩, .string f, .int .i64 kd, .int .i64 x2, .int .i64 x3, .string x4, .string x5] 89 := by
    rw [hX]
    have h := ((RowIs.new (W.alloc (.cells #[.int .i64 x2, .int .i64 x3, .string x4, .string x5] 76)) #[.string ⟨#[]⟩, .string f, .int .i64 kd, .int .i64 x2, .int .i64 x3, .string x4, .string x5] 89).keep (bAl (Below.refl _ _) (.cells #[.iface T u, .string f] 78))).keep (bAl (Below.refl _ _) (.cells #[.string ⟨#[]⟩] 112))
    simpa using h
  have k10 := RX1.at (o := 0) (v := .string ⟨#[]⟩) rfl
  have k11 := RX1.at (o := 1) (v := .string f) rfl
  have k12 := RX1.at (o := 2) (v := .int .i64 kd) rfl
  have k13 := RX1.at (o := 3) (v := .int .i64 x2) rfl
  have k14 := RX1.at (o := 4) (v := .int .i64 x3) rfl
  have k15 := RX1.at (o := 5) (v := .string x4) rfl
  have k16 := RX1.at (o := 6) (v := .string x5) rfl
  clear RX1
  have RX3 : RowIs X (W.heap.size + 1 + 1 + 1) #[.string ⟨#[]⟩] 112 := by
    rw [hX]
    have h := RowIs.new (((W.alloc (.cells #[.int .i64 x2, .int .i64 x3, .string x4, .string x5] 76)).alloc (.cells #[.string ⟨#[]⟩, .string f, .int .i64 kd, .int .i64 x2, .int .i64 x3, .string x4, .string x5] 89)).alloc (.cells #[.iface T u, .string f] 78)) #[.string ⟨#[]⟩] 112
    simpa using h
  have k30 := RX3.at (o := 0) (v := .string ⟨#[]⟩) rfl
  clear RX3
  have RR := hide ((unhide N2).keep bx)
  have r0 := cellB bx z1 t0
  have BX := hide (bTr (unhide BW) bx)
  rw [← hX]
  clear hX bx t0 t1 t2
  have q0 := (unhide RR).at (o := 0) (v := .string ⟨#[]⟩) rfl
  have p0 := (unhide RR).froz 0
  have q1 := (unhide RR).at (o := 1) (v := .string ⟨#[]⟩) rfl
  have p1 := (unhide RR).froz 1
  have q2 := (unhide RR).at (o := 2) (v := .int .i64 0) rfl
  have p2 := (unhide RR).froz 2
  have q3 := (unhide RR).at (o := 3) (v := .int .i64 0) rfl
  have p3 := (unhide RR).froz 3
  have q4 := (unhide RR).at (o := 4) (v := .int .i64 0) rfl
  have p4 := (unhide RR).froz 4
  have q5 := (unhide RR).at (o := 5) (v := .string ⟨#[]⟩) rfl
  have p5 := (unhide RR).froz 5
  have q6 := (unhide RR).at (o := 6) (v := .string ⟨#[]⟩) rfl
  have p6 := (unhide RR).froz 6
  clear f1 f2 f3 f4
  go_upto_region 16 with fail
  clear r0
  have RZ := RowIs.set7n (u0 := .string ⟨#[]⟩) (u1 := .string f) (u2 := .int .i64 kd) (u3 := .int .i64 x2) (u4 := .int .i64 x3) (u5 := .string x4) (u6 := .string x5) (unhide RR)
  go_wp2_with fail
  refine bodyPost_ret (v := .tuple #[.agg #[.string ⟨#[]⟩, .string f, .int .i64 kd, .int .i64 x2, .int .i64 x3, .string x4, .string x5], .bool false]) ?_ rfl ?_
  · refine results_twoF rfl _ _ (w.heap.size + 1) 89 #[.string ⟨#[]⟩, .string f, .int .i64 kd, .int .i64 x2, .int .i64 x3, .string x4, .string x5] (0, 0) _ (.bool false) ?_ ?_ ?_ Tryz.underlying89 rfl ?_
    · rfl
    · rfl
    · exact RZ
    · kernel_rfl
  exact ⟨AskEnd.of ⟨fun h => (by cases h), fun h => absurd h (unhide no)⟩, (Below.setCell (Below.setCell (Below.setCell (Below.setCell (Below.setCell (Below.setCell (Below.setCell (unhide BX) (Nat.le_succ _) _) (Nat.le_succ _) _) (Nat.le_succ _) _) (Nat.le_succ _) _) (Nat.le_succ _) _) (Nat.le_succ _) _) (Nat.le_succ _) _)⟩
theorem litAskOf_core {wt : World} {lo r : Nat} {ka kb : ET} {va vb : Value} (ha : ExAt wt lo r ka va) (fa : Fit ka) (hb : ExAt wt lo r kb vb) (fb : Fit kb) (kd : Int) (T0 T1 : TypeId) (u0 u1 : Value) (w : World)
    (q : ∀ w : World, Calls Tryz.prog 60 #[.agg #[.int .i64 kd, .iface T0 u0, .iface T1 u1]] w fun e w' => e = .returned (.agg #[.int .i64 kd, va, vb]) ∧ Below w.heap.size w w') :
    Calls Tryz.prog 39 #[.agg #[.int .i64 kd, .iface T0 u0, .iface T1 u1]] w fun e w' => AskEnd e (AskP kd ka kb) ∧ Below w.heap.size w w' := by
  obtain ⟨Ta, ua, ea⟩ := ha.iface fa
  rcases hb.deep fb with ⟨g, rfl⟩ | ⟨g, rfl⟩ | ⟨g, _, rfl⟩ | ⟨g, _, T, u, _, rfl⟩ | ⟨⟨g, _, _⟩, T, u, h4, rfl⟩
  · rcases ha.deep fa with ⟨k, rfl⟩ | ⟨k, rfl⟩ | ⟨k, k', rfl⟩ | ⟨k, k', T, u, h4, rfl⟩ | ⟨⟨k, k2, k3⟩, T, u, h4, rfl⟩
    · exact litAsk_none _ _ _ _ _ _ _ kd T0 T1 u0 u1 w q (hide (fun h => by rcases h.2 with ⟨h', _⟩ | ⟨h', _⟩ <;> omega)) (ta_lit_var _) (ta_lit_get _)
    · exact litAsk_var _ _ _ _ _ _ kd T0 T1 u0 u1 w q (hide (by unfold AskP; simp [g, k]))
    · exact litAsk_getvar _ _ _ _ _ _ _ kd T0 T1 u0 u1 w q (hide (by unfold AskP; simp only [g, k, k', true_and]; simp))
    · have no : Hid (¬ AskP kd ka kb) := hide (fun h => by rcases h.2 with ⟨h', _⟩ | ⟨_, h', _⟩ <;> omega)
      rcases h4 with rfl | rfl | rfl | rfl | rfl | rfl | rfl
      · exact litAsk_getno _ _ _ _ _ _ u _ kd T0 T1 u0 u1 w q no (ta_lit_var u)
      · exact litAsk_getno _ _ _ _ _ _ u _ kd T0 T1 u0 u1 w q no (ta_get_var u)
      · exact litAsk_getno _ _ _ _ _ _ u _ kd T0 T1 u0 u1 w q no (ta_word_var u)
      · exact litAsk_getno _ _ _ _ _ _ u _ kd T0 T1 u0 u1 w q no (ta_sign_var u)
      · exact litAsk_getno _ _ _ _ _ _ u _ kd T0 T1 u0 u1 w q no (ta_if_var u)
      · exact litAsk_getno _ _ _ _ _ _ u _ kd T0 T1 u0 u1 w q no (ta_pair_var u)
      · exact litAsk_getno _ _ _ _ _ _ u _ kd T0 T1 u0 u1 w q no (ta_set_var u)
    · have no : Hid (¬ AskP kd ka kb) := hide (fun h => by rcases h.2 with ⟨h', _⟩ | ⟨h', _⟩ <;> omega)
      rcases h4 with rfl | rfl | rfl | rfl | rfl
      · exact litAsk_none _ _ _ _ _ _ u kd T0 T1 u0 u1 w q no (ta_set_var u) (ta_set_get u)
      · exact litAsk_none _ _ _ _ _ _ u kd T0 T1 u0 u1 w q no (ta_word_var u) (ta_word_get u)
      · exact litAsk_none _ _ _ _ _ _ u kd T0 T1 u0 u1 w q no (ta_sign_var u) (ta_sign_get u)
      · exact litAsk_none _ _ _ _ _ _ u kd T0 T1 u0 u1 w q no (ta_if_var u) (ta_if_get u)
      · exact litAsk_none _ _ _ _ _ _ u kd T0 T1 u0 u1 w q no (ta_pair_var u) (ta_pair_get u)
  all_goals subst ea
  · exact litAsk_nolit _ Ta _ ua _ kd T0 T1 u0 u1 w q (hide (fun h => by have := h.1; omega)) (ta_var_lit _)
  · exact litAsk_nolit _ Ta _ ua _ kd T0 T1 u0 u1 w q (hide (fun h => by have := h.1; omega)) (ta_get_lit _)
  · exact litAsk_nolit _ Ta _ ua _ kd T0 T1 u0 u1 w q (hide (fun h => by have := h.1; omega)) (ta_get_lit _)
  · have no : Hid (¬ AskP kd ka kb) := hide (fun h => g h.1)
    rcases h4 with rfl | rfl | rfl | rfl | rfl
    · exact litAsk_nolit _ Ta _ ua u kd T0 T1 u0 u1 w q no (ta_set_lit u)
    · exact litAsk_nolit _ Ta _ ua u kd T0 T1 u0 u1 w q no (ta_word_lit u)
    · exact litAsk_nolit _ Ta _ ua u kd T0 T1 u0 u1 w q no (ta_sign_lit u)
    · exact litAsk_nolit _ Ta _ ua u kd T0 T1 u0 u1 w q no (ta_if_lit u)
    · exact litAsk_nolit _ Ta _ ua u kd T0 T1 u0 u1 w q no (ta_pair_lit u)
theorem litAskOf_any {wt : World} {lo r : Nat} {k0 k1 : ET} {v0 v1 : Value} (h0 : ExAt wt lo r k0 v0) (f0 : Fit k0) (h1 : ExAt wt lo r k1 v1) (f1 : Fit k1) (kd : Int) (w : World) :
    Calls Tryz.prog 39 #[.agg #[.int .i64 kd, v0, v1]] w fun e w' => AskEnd e (LitP kd k0 k1) ∧ Below w.heap.size w w' := by
  obtain ⟨T0, u0, e0⟩ := h0.iface f0
  obtain ⟨T1, u1, e1⟩ := h1.iface f1
  by_cases hs : swapK kd k1
  · have e : LitP kd k0 k1 = AskP kd k1 k0 := propext (by unfold LitP; simp [hs])
    rw [e]
    subst e0 e1
    exact litAskOf_core h1 f1 h0 f0 kd T0 T1 u0 u1 w (fun w => (fieldFirst_any h1 f1 kd T0 u0 w).mono (fun e w' ⟨h, hb⟩ => ⟨by rcases h with ⟨_, h⟩ | ⟨h, _⟩; exact h; exact absurd hs h, hb⟩))
  · have e : LitP kd k0 k1 = AskP kd k0 k1 := propext (by unfold LitP; simp [hs])
    rw [e]
    subst e0 e1
    exact litAskOf_core h0 f0 h1 f1 kd T0 T1 u0 u1 w (fun w => (fieldFirst_any h1 f1 kd T0 u0 w).mono (fun e w' ⟨h, hb⟩ => ⟨by rcases h with ⟨h, _⟩ | ⟨_, h⟩; exact absurd h hs; exact h, hb⟩))
end Go.Proofs.YteaidfighimoiaaGreat.V
