/- impl.thingIndex: ancestors. -/
import Derived.Test.YtpfekkhnjaopdaaGreatNTi
namespace Go.Proofs.YtpfekkhnjaopdaaGreat.V
set_option linter.unusedSimpArgs false
set_option linter.unusedVariables false
open Go.RowKit Go.Maps

theorem seA_none : seA (fun _ => False) = fun _ => none := by funext p; unfold seA; rw [if_neg (fun h => h)]
theorem Climbed.all {P : AtomT → List AtomT} {a : AtomT} {F' : AtomT → Prop} (h : Climbed P a (fun _ => False) F') : ∀ x, F' x ↔ Up P a x := fun x =>
  ⟨fun hx => (h.up x hx).elim (fun h => h.elim) id, fun hx => Up.least h.has (fun y hy p hp => ((h.cl y hy).elim (fun h => h.elim) id) p hp) hx⟩
theorem zeroMp (w : World) : (zeroValue 69).run Tryz.prog w = .ok (.map none) w := by kernel_rfl
/-- What there is to climb. -/
def unU (lt : List ThingE) (a : AtomT) : List AtomT := a :: lt.flatMap (·.t.f1)
theorem unU_par {lt : List ThingE} {M : AtomT → Option Value} {C : AtomT → Option ThingE} (hC : KCA lt M C) {a : AtomT} : ∀ x ∈ unU lt a, ∀ p ∈ parC C x, p ∈ unU lt a := fun x _ p hp => by
  unfold parC at hp
  cases hc : C x with
  | none => rw [hc] at hp; cases hp
  | some e =>
    rw [hc] at hp
    exact List.mem_cons_of_mem _ (List.mem_flatMap.2 ⟨e, ((hC x).2.2 e hc).1, hp⟩)
theorem flat_le {lt : List ThingE} (h : ∀ e ∈ lt, e.t.f1.length ≤ 50) : (lt.flatMap (·.t.f1)).length ≤ lt.length * 50 := by
  induction lt with
  | nil => simp
  | cons e l ih =>
    have h1 := h e (List.mem_cons_self ..)
    have h2 := ih (fun x hx => h x (List.mem_cons_of_mem _ hx))
    simp only [List.flatMap_cons, List.length_append, List.length_cons]
    omega
set_option maxRecDepth 20000 in
set_option maxHeartbeats 4000000 in
theorem ancestors_n (w0 : World) (lt : List ThingE) (M : AtomT → Option Value) (C : AtomT → Option ThingE) (b1 b2 n1 : Nat) (a : AtomT) (w : World) (hm0 : ∀ e ∈ lt, ThingM w0 0 e) (hC : KCA lt M C) (hg : GThs (lt.map (·.t))) (hn : ∀ e ∈ lt, ThingN e.t) (ha : OkA a) (h12 : b1 ≠ b2) (hb : Below w0.heap.size w0 w) (hz2 : w0.heap.size ≤ b2) (hk1 : KAt w b1 n1 M) (hk2 : KAt w b2 0 (fun _ => none)) :
    Calls Tryz.prog 29 #[.agg #[.map (some b1), .map (some b2)], encA a] w fun r w' => ∃ bf n, r = .returned (.map (some bf)) ∧ KAt w' bf n (seA (Up (parC C) a)) ∧ w.grownBy w' (some b2) := by
  have z1 := hk1.lt
  have z2 := hk2.lt
  obtain ⟨W, hW⟩ : ∃ W, W = ((w.alloc (.cells #[.map (some b1), .map (some b2)] 61)).alloc (.cells #[.int .i64 a.x, .int .i64 a.n, .string a.t, .string a.y] 31)).alloc (.map #[] 0) := ⟨_, rfl⟩
  obtain ⟨W', hW'⟩ : ∃ W', W' = (w.alloc (.cells #[.map (some b1), .map (some b2)] 61)).alloc (.cells #[.int .i64 a.x, .int .i64 a.n, .string a.t, .string a.y] 31) := ⟨_, rfl⟩
  have bW' : Below w.heap.size w W' := by rw [hW']; exact bAl (bAl (Below.refl _ _) _) _
  have bW : Below w.heap.size w W := by rw [hW]; exact bAl (bAl (bAl (Below.refl _ _) _) _) _
  have R1 : Hid (RowIs W w.heap.size #[.map (some b1), .map (some b2)] 61) := hide (by rw [hW]; exact ((RowIs.new w _ _).keep (bAl (Below.refl _ _) _)).keep (bAl (Below.refl _ _) _))
  have R2 : Hid (RowIs W (w.heap.size + 1) #[.int .i64 a.x, .int .i64 a.n, .string a.t, .string a.y] 31) := hide (by
    rw [hW]
    have := (RowIs.new (w.alloc (.cells #[.map (some b1), .map (some b2)] 61)) #[.int .i64 a.x, .int .i64 a.n, .string a.t, .string a.y] 31).keep (bAl (Below.refl _ _) (.map #[] 0))
    simpa using this)
  have KF : KAt W (w.heap.size + 1 + 1) 0 (seA (fun _ => False)) := by
    rw [hW, seA_none]
    have k := KM.made Tryz.prog 31 encA ((w.alloc (.cells #[.map (some b1), .map (some b2)] 61)).alloc (.cells #[.int .i64 a.x, .int .i64 a.n, .string a.t, .string a.y] 31))
    simp only [World.size_alloc] at k
    exact k
  have oks : ∀ x ∈ unU lt a, OkA x := fun x hx => by
    rcases List.mem_cons.1 hx with h | h
    · rw [h]; exact ha
    · obtain ⟨e, he, hx⟩ := List.mem_flatMap.1 h
      exact refA.ok ((hg.1.2 _ (List.mem_map_of_mem he)).2.1.2 x hx) ((hn e he).o1 x hx)
  have hlen : (unU lt a).length < maxLen := by
    have h1 := flat_le (lt := lt) (fun e he => (hg.1.2 _ (List.mem_map_of_mem he)).2.1.1)
    have h2 := hg.1.1
    simp at h2
    unfold unU maxLen
    rw [List.length_cons]
    omega
  have hcnt : cntU (unU lt a) (fun _ => False) ≤ (unU lt a).length := by unfold cntU; exact List.countP_le_length
  have q := hide (climb_n w0 lt M C (unU lt a) b1 b2 (w.heap.size + 1 + 1) n1 (unU lt a).length hm0 hC oks (unU_par hC) (fun e he => (hn e he).l1) (by omega) (by have := hb.size; omega) hlen _ a (fun _ => False) 0 W (Nat.le_refl _) (by omega) (List.mem_cons_self ..) (bTr hb bW) (hk1.keepB bW hk1.lt) KF)
  have K2' := hide (hk2.keepB bW' hk2.lt)
  have K2 := hide (hk2.keepB bW hk2.lt)
  have GW := hide (grownB bW (some b2))
  have HW := hide hW.symm
  have HW' := hide hW'.symm
  have hmm := @run_makeMap Tryz.prog
  have ev0 : Hid (((fun _ => none : AtomT → Option Value) a).getD (.map none) = .map none) := hide rfl
  have er0 : Hid (((fun _ => none : AtomT → Option Value) a).isSome = false) := hide rfl
  have HC := hide hcnt
  have zz : W.heap.size = w.heap.size + 1 + 1 + 1 := by rw [hW]; simp
  clear hm0 hC hg hn hb hk1 hk2 KF oks hlen hcnt hW hW' bW bW'
  unfold encA at q ⊢
  go_enter Tryz.func29, Tryz.ntmps29
  go_wp2_with (at_lookup; rw [unhide HW']; refine wpList_look_km _ kAtom rfl _ _ _ rfl _ Tryz.underlying59 (zeroMp _) b2 0 _ rfl (unhide K2') a rfl ha _ _ (unhide ev0) (unhide er0) ?_; rw [← unhide HW'])
  rw [unhide HW]
  refine (unhide q).mono ?_
  rintro e w1 ⟨rfl, g1, F', n', k1, _, _, hcl⟩
  have nb1 : some w.heap.size ≠ some (w.heap.size + 1 + 1) := fun h => by have := Option.some.inj h; omega
  have nb2 : some (w.heap.size + 1) ≠ some (w.heap.size + 1 + 1) := fun h => by have := Option.some.inj h; omega
  have nb3 : some b2 ≠ some (w.heap.size + 1 + 1) := fun h => by have := Option.some.inj h; omega
  replace R1 := hide (rowGrown (unhide R1) g1 nb1)
  replace R2 := hide (rowGrown (unhide R2) g1 nb2)
  replace K2 := hide ((unhide K2).kept g1 nb3)
  have KF := hide k1
  have CL := hide hcl.all
  have gx : Hid (w.grownBy w1 (some b2)) := hide (by
    have g0 := unhide GW
    refine ⟨g1.os.trans g0.os, g1.tape.trans g0.tape, g1.output.trans g0.output, Nat.le_trans g0.size g1.size, fun j hj hne => ?_⟩
    have hj2 : j < W.heap.size := Nat.lt_of_lt_of_le hj g0.size
    rw [g1.block j hj2 (fun h => by have := Option.some.inj h; omega)]
    exact g0.block j hj hne)
  have c0 := (unhide R2).at (o := 0) (v := .int .i64 a.x) rfl
  have c1 := (unhide R2).at (o := 1) (v := .int .i64 a.n) rfl
  have c2 := (unhide R2).at (o := 2) (v := .string a.t) rfl
  have c3 := (unhide R2).at (o := 3) (v := .string a.y) rfl
  have p1 := (unhide R1).at (o := 1) (v := .map (some b2)) rfl
  have hm0 : (0 : Nat) < maxLen := by unfold maxLen; omega
  clear g1 k1 hcl q HW HW' hmm K2' GW HC
  have nc1 : some w.heap.size ≠ some b2 := fun h => by have := Option.some.inj h; omega
  have nc2 : some (w.heap.size + 1) ≠ some b2 := fun h => by have := Option.some.inj h; omega
  have nc3 : some (w.heap.size + 1 + 1) ≠ some b2 := fun h => by have := Option.some.inj h; omega
  have ev : Hid ((updK (fun _ => none : AtomT → Option Value) a (.map (some (w.heap.size + 1 + 1))) a).getD (.map none) = .map (some (w.heap.size + 1 + 1))) := hide (by unfold updK; rw [if_pos rfl]; rfl)
  go_wp2_with (first
    | (at_mapUpdate; refine wpList_put_km _ kAtom rfl _ _ _ _ rfl _ Tryz.underlying59 b2 0 _ rfl (unhide K2) hm0 a (.map (some (w.heap.size + 1 + 1))) rfl rfl ha ?_; intro w2 g1 g2 g3; have S1 := hide (rowGrown (unhide R1) g2 nc1); have S2 := hide (rowGrown (unhide R2) g2 nc2); have KE := hide ((unhide KF).kept g2 nc3); have gy := hide ((unhide gx).trans g2); have K3 := hide g1; have d0 := (unhide S2).at (o := 0) (v := .int .i64 a.x) rfl; have d1 := (unhide S2).at (o := 1) (v := .int .i64 a.n) rfl; have d2 := (unhide S2).at (o := 2) (v := .string a.t) rfl; have d3 := (unhide S2).at (o := 3) (v := .string a.y) rfl; have p2 := (unhide S1).at (o := 1) (v := .map (some b2)) rfl; clear g1 g2 g3)
    | (at_lookup; refine wpList_get_km _ kAtom rfl _ _ _ rfl _ Tryz.underlying59 (zeroMp _) b2 1 _ rfl (unhide K3) a rfl ha _ (unhide ev) ?_))
  go_ret
  exact ⟨_, n', rfl, by rw [← seA_congr (unhide CL)]; exact unhide KE, unhide gy⟩
end Go.Proofs.YtpfekkhnjaopdaaGreat.V
