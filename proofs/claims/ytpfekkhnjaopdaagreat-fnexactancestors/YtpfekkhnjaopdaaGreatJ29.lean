/- NUp, NIa, one behind the other. -/
import Derived.Test.YtpfekkhnjaopdaaGreatJ28
import Derived.Laws.OwnMore
import Derived.Test.YtpfekkhnjaopdaaGreatJ26
/- spec.l12Up. -/
namespace Go.Proofs.YtpfekkhnjaopdaaGreat.V
set_option linter.unusedSimpArgs false
set_option linter.unusedVariables false
open Go.RowKit Go.Maps

noncomputable def parL (lt : List ThingT) (x : AtomT) : List AtomT := match lt.find? (fun t => decide (t.f0 = x)) with | some t => t.f1 | none => []
/-- Under way: L holds a, only what is above, what is above the first k, nothing twice. -/
structure UpI (P : AtomT → List AtomT) (U : List AtomT) (a : AtomT) (L : List AtomT) (k : Nat) : Prop where
  nd : L.Nodup
  has : a ∈ L
  up : ∀ x ∈ L, Up P a x
  un : ∀ x ∈ L, x ∈ U
  cl : ∀ i (h : i < L.length), i < k → ∀ p ∈ P L[i], p ∈ L
theorem UpI.len {P : AtomT → List AtomT} {U : List AtomT} {a : AtomT} {L : List AtomT} {k : Nat} (h : UpI P U a L k) : L.length ≤ U.length := nd_len h.nd h.un
theorem UpI.all {P : AtomT → List AtomT} {U : List AtomT} {a : AtomT} {L : List AtomT} {k : Nat} (h : UpI P U a L k) (hk : L.length ≤ k) (x : AtomT) : x ∈ L ↔ Up P a x :=
  ⟨h.up x, fun hx => Up.least (F := fun y => y ∈ L) h.has (fun y hy p hp => by
    obtain ⟨i, hi, rfl⟩ := List.getElem_of_mem hy
    exact h.cl i hi (by omega) p hp) hx⟩
/-- Within: of the k-th's parents the first m are there. -/
structure UpJ (P : AtomT → List AtomT) (U : List AtomT) (a : AtomT) (L0 L : List AtomT) (k : Nat) (ps : List AtomT) (m : Nat) : Prop where
  i : UpI P U a L k
  ext : ∃ X, L = L0 ++ X
  ps : ∀ j (h : j < ps.length), j < m → ps[j] ∈ L
theorem UpJ.skip {P : AtomT → List AtomT} {U : List AtomT} {a : AtomT} {L0 L : List AtomT} {k : Nat} {ps : List AtomT} {m : Nat} (h : UpJ P U a L0 L k ps m) (hm : m < ps.length) (hin : ps[m] ∈ L) : UpJ P U a L0 L k ps (m + 1) :=
  ⟨h.i, h.ext, fun j hj hjm => by
    rcases Nat.lt_or_ge j m with h2 | h2
    · exact h.ps j hj h2
    · obtain rfl : j = m := by omega
      exact hin⟩
theorem UpJ.take {P : AtomT → List AtomT} {U : List AtomT} {a : AtomT} {L0 L : List AtomT} {k : Nat} {ps : List AtomT} {m : Nat} (h : UpJ P U a L0 L k ps m) (hm : m < ps.length) (hin : ¬ ps[m] ∈ L) (hup : Up P a ps[m]) (hU : ps[m] ∈ U) (hk : k ≤ L.length) : UpJ P U a L0 (L ++ [ps[m]]) k ps (m + 1) := by
  refine ⟨⟨?_, List.mem_append_left _ h.i.has, fun x hx => ?_, fun x hx => ?_, fun i hi hik p hp => ?_⟩, ?_, fun j hj hjm => ?_⟩
  · rw [List.nodup_append]
    exact ⟨h.i.nd, List.nodup_cons.2 ⟨by simp, List.nodup_nil⟩, fun x hx y hy e => by simp at hy; subst hy; exact hin (e ▸ hx)⟩
  · rcases List.mem_append.1 hx with hx | hx
    · exact h.i.up x hx
    · simp at hx; rw [hx]; exact hup
  · rcases List.mem_append.1 hx with hx | hx
    · exact h.i.un x hx
    · simp at hx; rw [hx]; exact hU
  · have hi' : i < L.length := by omega
    rw [List.getElem_append_left hi'] at hp
    exact List.mem_append_left _ (h.i.cl i hi' hik p hp)
  · obtain ⟨X, rfl⟩ := h.ext
    exact ⟨X ++ [ps[m]], by rw [List.append_assoc]⟩
  · rcases Nat.lt_or_ge j m with h2 | h2
    · exact List.mem_append_left _ (h.ps j hj h2)
    · obtain rfl : j = m := by omega
      exact List.mem_append_right _ (by simp)
theorem UpJ.done {P : AtomT → List AtomT} {U : List AtomT} {a : AtomT} {L0 L : List AtomT} {k : Nat} {ps : List AtomT} {m : Nat} (h : UpJ P U a L0 L k ps m) (hk : k < L0.length) (hp : P L0[k] = ps) (hm : ps.length ≤ m) : UpI P U a L (k + 1) ∧ L0.length ≤ L.length := by
  obtain ⟨X, rfl⟩ := h.ext
  refine ⟨⟨h.i.nd, h.i.has, h.i.up, h.i.un, fun i hi hik p hpp => ?_⟩, by simp⟩
  rcases Nat.lt_or_ge i k with h2 | h2
  · exact h.i.cl i hi h2 p hpp
  · obtain rfl : i = k := by omega
    rw [List.getElem_append_left hk, hp] at hpp
    obtain ⟨j, hj, rfl⟩ := List.getElem_of_mem hpp
    exact h.ps j hj (by omega)
set_option maxRecDepth 20000 in
set_option maxHeartbeats 8000000 in
theorem l12Up_n (hd : Hd) (lt : List ThingE) (a : AtomT) (w : World) (hg : GThs (lt.map (·.t))) (hn : ∀ e ∈ lt, ThingN e.t) (hl : lt.length ≤ maxLen) (hs : SqThingE w 0 hd lt) (ha : a.Ok) :
    Calls Tryz.prog 23 #[.slice hd.a hd.len hd.cap, encA a] w fun r w' => (∃ v L rr, r = .returned v ∧ (∀ x, x ∈ L ↔ Up (parL (lt.map (·.t))) a x) ∧ SetR L rr ∧ w'.ownsRow w.heap.size 31 4 v rr.length (atomsV rr)) ∧ Below w.heap.size w w' := by
  have hUl : (unU lt a).length ≤ 5001 := by
    have h1 := flat_le (lt := lt) (fun e he => (hg.1.2 _ (List.mem_map_of_mem he)).2.1.1)
    have h2 := hg.1.1
    simp at h2
    unfold unU
    rw [List.length_cons]
    omega
  have oks : Hid (∀ x ∈ unU lt a, AtomT.Ok x) := hide (fun x hx => by
    rcases List.mem_cons.1 hx with h | h
    · rw [h]; exact ha
    · obtain ⟨e, he, hx⟩ := List.mem_flatMap.1 h
      exact (hn e he).o1 x hx)
  obtain ⟨P, hP⟩ : ∃ P, P = parL (lt.map (·.t)) := ⟨_, rfl⟩
  rw [← hP]
  have PF : Hid (∀ x (e : ThingE) (b : Bool), lt.find? (fun c => decide (c.t.f0 = x)) = (if b = true then some e else none) → (b = false → e.h1 = ⟨none, 0, 0⟩) → SqA w 0 e.h1 (P x) ∧ (∀ p ∈ P x, p ∈ unU lt a) ∧ (P x).length ≤ 50) := hide (fun x e b hf hb => by
    rw [hP]
    unfold parL
    rw [List.find?_map]
    have h0 : lt.find? ((fun t : ThingT => decide (t.f0 = x)) ∘ (fun e : ThingE => e.t)) = (if b = true then some e else none) := hf
    rw [h0]
    cases b
    · rw [hb rfl]
      show SqA w 0 ⟨none, 0, 0⟩ ([] : List AtomT) ∧ (∀ p ∈ ([] : List AtomT), p ∈ unU lt a) ∧ ([] : List AtomT).length ≤ 50
      exact ⟨⟨rfl, .inl rfl⟩, fun p hp => (by cases hp), Nat.zero_le _⟩
    · have he := List.mem_of_find?_eq_some hf
      exact ⟨(hs.2.2 e he).m1, fun p hp => List.mem_cons_of_mem _ (List.mem_flatMap.2 ⟨e, he, hp⟩), (hg.1.2 _ (List.mem_map_of_mem he)).2.1.1⟩)
  have q1 := hide (fun (x : AtomT) (w' : World) (hb : Below w.heap.size w w') => l11Thing_n hd lt x w' hl (hs.keep hb))
  obtain ⟨U, hU⟩ : ∃ U, U = unU lt a := ⟨_, rfl⟩
  rw [← hU] at hUl oks PF
  obtain ⟨i0, hi, hz0, hz1, hz2⟩ := info_partsN info_atomN
  obtain ⟨W, hW⟩ : ∃ W, W = (w.alloc (.cells #[.int .i64 a.x, .int .i64 a.n, .string a.t, .string a.y] 31)).alloc (.cells #[.int .i64 a.x, .int .i64 a.n, .string a.t, .string a.y] 31) := ⟨_, rfl⟩
  have B : Hid (Below w.heap.size w W) := hide (by rw [hW]; exact bAl (bAl (Below.refl _ _) _) _)
  have O : Hid (W.ownsRow w.heap.size 31 4 (.slice (some ⟨w.heap.size + 1, 0, none⟩) 1 1) [a].length (atomsV [a])) := hide (by
    rw [hW]
    have h := World.ownsRow_lit (base := w.heap.size) (e := 31) (size := 4) (w.alloc (.cells #[.int .i64 a.x, .int .i64 a.n, .string a.t, .string a.y] 31)) #[.int .i64 a.x, .int .i64 a.n, .string a.t, .string a.y] 1 (by simp) (by unfold maxLen; omega) rfl
    simpa [atomsV, cellsA] using h)
  have I0 : Hid (UpI P U a [a] 0) := hide ⟨List.nodup_cons.2 ⟨by simp, List.nodup_nil⟩, by simp, fun x hx => by simp at hx; rw [hx]; exact .same, fun x hx => by simp at hx; rw [hx, hU]; exact List.mem_cons_self .., fun i _ h => absurd h (Nat.not_lt_zero _)⟩
  have HW := hide hW.symm
  have HUL := hide hUl
  clear hW hg hn hl hs ha hP hU hUl
  unfold encA
  go_enter Tryz.func23, Tryz.ntmps23
  go_wp2_with fail
  rw [unhide HW]
  clear HW
  go_loopw [5, 6] (fun u i w' => ∃ (k : Nat) (L : List AtomT), k ≤ L.length ∧ i = .int .i64 k ∧ Hid (w'.ownsRow w.heap.size 31 4 u L.length (atomsV L)) ∧ Hid (UpI P U a L k) ∧ Hid (Below w.heap.size w w')) (fun _ i _ => 5002 - (Go.RowKit.intOf i).toNat)
  case atStart => exact ⟨0, [a], Nat.zero_le _, rfl, O, I0, B⟩
  case round =>
    clear O I0 B
    obtain ⟨k, L, hk, rfl, O, I0, B⟩ := hrel
    obtain ⟨au, cu, eu⟩ := own_sl (unhide O)
    subst eu
    have lenL : L.length ≤ 5001 := Nat.le_trans (unhide I0).len (unhide HUL)
    by_cases hlt : k < L.length
    case neg =>
      have ALL := hide ((unhide I0).all (by omega))
      have q2 := hide (l1Sorted_any au L.length cu L wr (by omega) (sla_own (unhide O)) (fun x hx => unhide oks x ((unhide I0).un x hx)))
      clear q1
      go_wp2_with fail
      refine (unhide q2).mono ?_
      rintro e w1 ⟨⟨v, rr, rfl, hr⟩, hb⟩
      have HR := hide (unhide hr)
      have BN := hide (bTr (unhide B) hb)
      have bs := (unhide B).size
      clear hr hb q2
      go_wp2_with fail
      go_ret
      exact ⟨⟨_, L, rr, rfl, unhide ALL, (unhide HR).1, own_base (unhide HR).2 bs⟩, unhide BN⟩
    have sl := sla_own (unhide O)
    obtain ⟨b1, off1, e1, row1⟩ := sl.at hlt
    have c0 := (row1.c k hlt).c0
    have c1 := (row1.c k hlt).c1
    have c2 := (row1.c k hlt).c2
    have c3 := (row1.c k hlt).c3
    have LK : Hid (∃ y, y = L[k]) := hide ⟨_, rfl⟩
    obtain ⟨ak, hak⟩ := unhide LK
    have HAK := hide hak
    rw [← hak] at c0 c1 c2 c3
    have hupk : Hid (Up P a ak) := hide (by rw [hak]; exact (unhide I0).up _ (List.getElem_mem hlt))
    have q := hide (unhide q1 ak wr (unhide B))
    clear row1 sl hak LK
    subst e1
    unfold encA thV at q
    go_wp2_with fail
    refine (unhide q).mono ?_
    rintro r w1 ⟨⟨x, b, rfl, hf, hx1⟩, hb⟩
    obtain ⟨hsq, hpu, hp50⟩ := unhide PF ak x b hf hx1
    obtain ⟨ps, hps⟩ : ∃ ps, ps = P ak := ⟨_, rfl⟩
    rw [← hps] at hsq hpu hp50
    have HPS : Hid (P L[k] = ps) := hide (by rw [hps, ← unhide HAK])
    have PUP : Hid (∀ p ∈ ps, Up P a p ∧ p ∈ U) := hide (fun p hp => ⟨.next (unhide hupk) (by rw [← hps]; exact hp), hpu p hp⟩)
    have HSQ := hide hsq
    have HSL := hide hsq.1
    obtain ⟨⟨⟨fx, fn, ft, fy⟩, y1, y2, y3⟩, g1, g2, g3⟩ := x
    simp only at HSQ HSL hsq
    obtain ⟨ga, gl, gc⟩ := g1
    simp only at HSL
    have LG : gl ≤ 50 := by have := unhide HSL; omega
    obtain ⟨W2, hW2⟩ : ∃ X, X = w1.alloc (.cells #[.int .i64 fx, .int .i64 fn, .string ft, .string fy, .slice ga gl gc, .slice g2.a g2.len g2.cap, .slice g3.a g3.len g3.cap] 56) := ⟨_, rfl⟩
    have b2 : Below w1.heap.size w1 W2 := by rw [hW2]; exact bAl (Below.refl _ _) _
    have rb : RowIs W2 w1.heap.size #[.int .i64 fx, .int .i64 fn, .string ft, .string fy, .slice ga gl gc, .slice g2.a g2.len g2.cap, .slice g3.a g3.len g3.cap] 56 := by rw [hW2]; exact RowIs.new _ _ _
    have d4 := rb.at (o := 4) (v := .slice ga gl gc) rfl
    replace O := hide (own_keepT (own_keepT (unhide O) hb) b2)
    replace B := hide (bTr (bTr (unhide B) hb) b2)
    have J0 : Hid (UpJ P U a L L k ps 0) := hide ⟨unhide I0, ⟨[], by simp⟩, fun j _ h => absurd h (Nat.not_lt_zero _)⟩
    have HW2 := hide hW2.symm
    clear hf hx1 hb hpu hps hsq hW2 b2 rb q c0 c1 c2 c3 hupk I0 q1
    go_wp2_with fail
    rw [unhide HW2]
    clear HW2 d4
    go_loopw [5, 31] (fun u i w' => ∃ (m : Nat) (L' : List AtomT), m ≤ gl ∧ i = .int .i64 m ∧ Hid (w'.ownsRow w.heap.size 31 4 u L'.length (atomsV L')) ∧ Hid (UpJ P U a L L' k ps m) ∧ Hid (Below w.heap.size w w')) (fun _ i _ => gl - (Go.RowKit.intOf i).toNat)
    case atStart => exact ⟨0, L, Nat.zero_le _, rfl, O, J0, B⟩
    case round =>
      clear O J0 B
      obtain ⟨m, L', hm, rfl, O, J0, B⟩ := hrel
      obtain ⟨av, cv, ev⟩ := own_sl (unhide O)
      subst ev
      by_cases hm2 : m < gl
      case neg =>
        have DN := (unhide J0).done hlt (unhide HPS) (by have := unhide HSL; omega)
        have I1 := hide DN.1
        have l2 := DN.2
        clear DN J0
        go_wp2_with fail
        exact ⟨⟨k + 1, L', by omega, by go_num, O, I1, B⟩, by simp [Go.RowKit.intOf]; omega⟩
      have hm' : m < ps.length := by have := unhide HSL; omega
      have lenL' : L'.length ≤ 5001 := Nat.le_trans (unhide J0).i.len (unhide HUL)
      obtain ⟨bp, offp, ep, rowp⟩ := ((unhide HSQ).keep (unhide B)).sl.at hm2
      simp only at ep
      have c0 := (rowp.c m hm').c0
      have c1 := (rowp.c m hm').c1
      have c2 := (rowp.c m hm').c2
      have c3 := (rowp.c m hm').c3
      have SK : Hid (ps[m] ∈ L' → UpJ P U a L L' k ps (m + 1)) := hide (fun h => (unhide J0).skip hm' h)
      have TK : Hid (¬ ps[m] ∈ L' → UpJ P U a L (L' ++ [ps[m]]) k ps (m + 1)) := hide (fun h => (unhide J0).take hm' h (unhide PUP _ (List.getElem_mem hm')).1 (unhide PUP _ (List.getElem_mem hm')).2 (by
        obtain ⟨X, hX⟩ := (unhide J0).ext
        rw [hX]; simp; omega))
      clear rowp J0
      generalize ps[m] = A at *
      obtain ⟨W3, hW3⟩ : ∃ X, X = wr.alloc (.cells #[.int .i64 A.x, .int .i64 A.n, .string A.t, .string A.y] 31) := ⟨_, rfl⟩
      have b3 : Below wr.heap.size wr W3 := by rw [hW3]; exact bAl (Below.refl _ _) _
      have R3 : RowIs W3 wr.heap.size #[.int .i64 A.x, .int .i64 A.n, .string A.t, .string A.y] 31 := by rw [hW3]; exact RowIs.new _ _ _
      have O3 := hide (own_keepT (unhide O) b3)
      have B3 := hide (bTr (unhide B) b3)
      have q3 := hide (l12Has_n ⟨av, L'.length, cv⟩ L' A W3 (by unfold maxLen; omega) (SqA.of (sla_own (unhide O3))))
      have HR3 := hide R3
      have d0 := R3.at (o := 0) (v := .int .i64 A.x) rfl
      have d1 := R3.at (o := 1) (v := .int .i64 A.n) rfl
      have d2 := R3.at (o := 2) (v := .string A.t) rfl
      have d3 := R3.at (o := 3) (v := .string A.y) rfl
      have HW3 := hide hW3.symm
      clear hW3 b3 R3 O B
      subst ep
      unfold encA at q3
      go_wp2_with fail
      rw [unhide HW3]
      refine (unhide q3).mono ?_
      rintro e w4 ⟨⟨v, rfl, hv⟩, hb4⟩
      have HV := hide hv
      replace HR3 := hide ((unhide HR3).keep hb4)
      replace O3 := hide (own_keepT (unhide O3) hb4)
      replace B3 := hide (bTr (unhide B3) hb4)
      clear hv hb4 q3 d0 d1 d2 d3 c0 c1 c2 c3 HW3
      cases v
      case true =>
        have J1 := hide (unhide SK ((unhide HV).1 rfl))
        clear SK TK HV
        go_wp2_with fail
        exact ⟨⟨m + 1, L', by omega, by go_num, O3, J1, B3⟩, by simp [Go.RowKit.intOf]; omega⟩
      have J1 := hide (unhide TK (fun h => by have := (unhide HV).2 h; cases this))
      have d0 := (unhide HR3).at (o := 0) (v := .int .i64 A.x) rfl
      have d1 := (unhide HR3).at (o := 1) (v := .int .i64 A.n) rfl
      have d2 := (unhide HR3).at (o := 2) (v := .string A.t) rfl
      have d3 := (unhide HR3).at (o := 3) (v := .string A.y) rfl
      have t2 := hide (cell_four_new w4 (cellsA A) 31)
      have T3 := hide (show ∀ u ∈ cellsA A, u.oneCell' = true from fun u hu => by simp [cellsA] at hu; rcases hu with rfl | rfl | rfl | rfl <;> rfl)
      have t5 : (L'.length + 1) * 48 ≤ 140737488355328 := by omega
      have B3s := (unhide B3).size
      have T4 := hide (show w.heap.size ≤ (w4.alloc (.cells #[.int .i64 A.x, .int .i64 A.n, .string A.t, .string A.y] 31)).heap.size by simp; omega)
      have BA : Hid (∀ w5 : World, (w4.alloc (.cells #[.int .i64 A.x, .int .i64 A.n, .string A.t, .string A.y] 31)).grownBy w5 (Value.slice av L'.length cv).ownBlock → Below w.heap.size w w5) := hide (fun w5 hgr => (bAl (unhide B3) _).grown hgr (by simp; omega) (fun j hj => ((unhide O3).lt j hj).1))
      clear SK TK HV
      go_wp2_with (at_builtin; refine wpList_append_own_at _ rfl _ _ 27 rfl w.heap.size 31 i0 _ 4 48 Tryz.underlying27 hi hz0 hz1 hz2 rfl (by decide) _ _ _ rfl ((unhide O3).alloc _) ⟨_, 0, none⟩ 1 1 (cellsA A) rfl rfl (unhide t2) (unhide T3) (by unfold maxLen; omega) t5 (unhide T4) ?_; intro v5 w5 hown5 hgrow5 _ hat5)
      have O5 : Hid (w5.ownsRow w.heap.size 31 4 v5 (L' ++ [A]).length (atomsV (L' ++ [A]))) := hide (by rw [atomsV_snoc, List.length_append]; exact hown5)
      have B5 := hide (unhide BA w5 hgrow5)
      clear hown5 hgrow5 hat5 BA t2 T3 T4 O3 B3 HR3
      exact ⟨⟨m + 1, L' ++ [A], by omega, by go_num, O5, J1, B5⟩, by simp [Go.RowKit.intOf]; omega⟩
end Go.Proofs.YtpfekkhnjaopdaaGreat.V
/- impl.Ancestors. -/
namespace Go.Proofs.YtpfekkhnjaopdaaGreat.V
set_option linter.unusedSimpArgs false
set_option linter.unusedVariables false
open Go.RowKit Go.Maps Go.Sort Go.Shelf

/-- What Ancestors answers. -/
def AncIs (lt : List ThingT) (a : AtomT) (rr : List AtomT) : Prop := (GThs lt ∧ refA a = true ∧ (∀ x, x ∈ rr ↔ Up (parL lt) a x) ∧ rr.Pairwise (fun a b => a.cmp b < 0)) ∨ (¬ (GThs lt ∧ refA a = true) ∧ rr = [])
theorem AncIs.uniq {lt : List ThingT} {a : AtomT} {r r' : List AtomT} (h : AncIs lt a r) (k : AncIs lt a r') : r = r' := by
  rcases h with ⟨h1, h2, h3, h4⟩ | ⟨h1, h2⟩
  · rcases k with ⟨_, _, k3, k4⟩ | ⟨k1, _⟩
    · exact ris_ext (fun a => ord_A.irr a) (fun a b c => ord_A.tr a b c) h4 k4 (fun x => by rw [h3, k3])
    · exact absurd ⟨h1, h2⟩ k1
  · rcases k with ⟨k1, k2, _⟩ | ⟨_, k2⟩
    · exact absurd ⟨k1, k2⟩ h1
    · rw [h2, k2]
theorem srt_pw {ss : List AtomT} (hn : ss.Nodup) (hs : Srt ss) : ss.Pairwise (fun a b => a.cmp b < 0) := by
  rw [List.pairwise_iff_getElem]
  intro i j hi hj hij
  have h1 := hs i j hij hj
  rcases ord_A.tri ss[i] ss[j] with h | h | h
  · exact h
  · exact absurd ((List.getElem_inj hn).1 h) (by omega)
  · exact absurd h h1
theorem up_ref {lt : List ThingE} {M : AtomT → Option Value} {C : AtomT → Option ThingE} (hC : KCA lt M C) (hg : GThs (lt.map (·.t))) (hn : ∀ e ∈ lt, ThingN e.t) {a : AtomT} (ha : a.Ok) (hr : refA a = true) {x : AtomT} (h : Up (parC C) a x) : refA x = true ∧ x.Ok ∧ x ∈ unU lt a := by
  induction h with
  | same => exact ⟨hr, ha, List.mem_cons_self ..⟩
  | next _ hb ih =>
    rename_i c b _
    have hU := unU_par hC _ ih.2.2 _ hb
    unfold parC at hb
    split at hb
    · rename_i e he
      obtain ⟨hm, _⟩ := (hC c).2.2 e he
      exact ⟨(hg.1.2 _ (List.mem_map_of_mem hm)).2.1.2 _ hb, (hn e hm).o1 _ hb, hU⟩
    · cases hb
set_option maxRecDepth 40000 in
set_option maxHeartbeats 4000000 in
theorem iAncestors_n (hd : Hd) (lt : List ThingE) (a : AtomT) (w : World) (hn : ∀ e ∈ lt, ThingN e.t) (hl : lt.length ≤ maxLen) (hs : SqThingE w 0 hd lt) (hao : a.Ok) :
    Calls Tryz.prog 10 #[.slice hd.a hd.len hd.cap, encA a] w fun r w' => (∃ v rr, r = .returned v ∧ AncIs (lt.map (·.t)) a rr ∧ w'.ownsRow w.heap.size 31 4 v rr.length (atomsV rr)) ∧ Below w.heap.size w w' := by
  obtain ⟨W, hW⟩ : ∃ W, W = w.alloc (.cells #[.int .i64 a.x, .int .i64 a.n, .string a.t, .string a.y] 31) := ⟨_, rfl⟩
  have bW : Below w.heap.size w W := by rw [hW]; exact bAl (Below.refl _ _) _
  have HR : Hid (RowIs W w.heap.size #[.int .i64 a.x, .int .i64 a.n, .string a.t, .string a.y] 31) := hide (by rw [hW]; exact RowIs.new _ _ _)
  have q1 := hide (thingIndexOf_n hd lt W hn hl (hs.keep bW))
  have BW := hide bW
  have HW := hide hW.symm
  have HN := hide hn
  have HS := hide hs
  have HA := hide hao
  clear hn hl hs hao hW bW
  unfold encA
  go_enter Tryz.func10, Tryz.ntmps10
  go_wp2_with fail
  rw [unhide HW]
  refine (unhide q1).mono ?_
  rintro r w1 ⟨⟨b1, b2, ok, rfl, hok, h12, hz1, hkg, hk2⟩, hb⟩
  replace HR := hide ((unhide HR).keep hb)
  have B1 := hide (bTr (unhide BW) hb)
  have HOK := hide hok
  have HKG := hide hkg
  have HK2 := hide hk2
  have hzW : w.heap.size < W.heap.size := by rw [← unhide HW]; simp
  obtain ⟨WI, hWI⟩ : ∃ X, X = w1.alloc (.cells #[.map (some b1), .map (some b2)] 61) := ⟨_, rfl⟩
  have bI : Below w1.heap.size w1 WI := by rw [hWI]; exact bAl (Below.refl _ _) _
  obtain ⟨bi, hbi⟩ : ∃ b, b = w1.heap.size := ⟨_, rfl⟩
  have HI : Hid (RowIs WI bi #[.map (some b1), .map (some b2)] 61) := hide (by rw [hWI, hbi]; exact RowIs.new _ _ _)
  replace HR := hide ((unhide HR).keep bI)
  have BI := hide (bTr (unhide B1) bI)
  have HBI := hide bI
  have HWI := hide hWI.symm
  have HBB := hide hbi
  clear q1 hb hok hkg hk2 hWI bI HW BW hbi B1
  have qr0 := hide (fun w' => isRef_any a w' (unhide HA))
  cases ok
  case false =>
    have no : Hid (¬ (GThs (lt.map (·.t)) ∧ refA a = true)) := hide (fun g => by have := (unhide HOK).2 g.1; cases this)
    clear HKG HOK qr0
    go_wp2_with fail
    rw [unhide HWI]
    go_ret
    exact ⟨⟨.slice none 0 0, [], rfl, .inr ⟨unhide no, rfl⟩, ⟨rfl, .inl ⟨rfl, rfl⟩⟩⟩, unhide BI⟩
  have GG := hide ((unhide HOK).1 rfl)
  have KG1 := hide (unhide HKG rfl)
  clear HOK HKG
  have c0 := (unhide HR).at (o := 0) (v := .int .i64 a.x) rfl
  have c1 := (unhide HR).at (o := 1) (v := .int .i64 a.n) rfl
  have c2 := (unhide HR).at (o := 2) (v := .string a.t) rfl
  have c3 := (unhide HR).at (o := 3) (v := .string a.y) rfl
  rw [← unhide HWI] at c0 c1 c2 c3
  by_cases hr : refA a = true
  case neg =>
    have no : Hid (¬ (GThs (lt.map (·.t)) ∧ refA a = true)) := hide (fun g => hr g.2)
    have qr := hide (fun w' => callsF (unhide qr0 w') hr)
    clear hr qr0 KG1
    go_wp2_with fail
    rw [unhide HWI]
    refine (unhide qr _).mono ?_
    rintro e w2 ⟨rfl, h2⟩
    have B2 := hide (bTr (unhide BI) h2)
    clear qr h2 c0 c1 c2 c3
    go_wp2_with fail
    go_ret
    exact ⟨⟨.slice none 0 0, [], rfl, .inr ⟨unhide no, rfl⟩, ⟨rfl, .inl ⟨rfl, rfl⟩⟩⟩, unhide B2⟩
  have qr := hide (fun w' => callsT (unhide qr0 w') hr)
  obtain ⟨M, C, hM, hC⟩ := (unhide KG1).told
  have HRA := hide hr
  have UR := hide (fun x hx => up_ref (x := x) hC (unhide GG) (unhide HN) (unhide HA) hr hx)
  have ULN : Hid ((unU lt a).length ≤ 1000000) := hide (by
    have h1 := flat_le (lt := lt) (fun e he => ((unhide GG).1.2 _ (List.mem_map_of_mem he)).2.1.1)
    have h2 := (unhide GG).1.1
    simp at h2
    unfold unU
    rw [List.length_cons]
    omega)
  have PE : Hid (parC C = parL (lt.map (·.t))) := hide (told_find hC (unhide GG))
  have qa : Hid (∀ (w' : World), Below WI.heap.size WI w' → Calls Tryz.prog 29 #[.agg #[.map (some b1), .map (some b2)], .agg #[.int .i64 a.x, .int .i64 a.n, .string a.t, .string a.y]] w' fun r w'' => ∃ bf n, r = .returned (.map (some bf)) ∧ KAt w'' bf n (seA (Up (parC C) a)) ∧ w'.grownBy w'' (some b2)) := hide (fun w' hb =>
    ancestors_n w lt M C b1 b2 lt.length a w' (unhide HS).2.2 hC (unhide GG) (unhide HN) (refA.ok hr (unhide HA)) (by omega) (bTr (unhide BI) hb) (by omega) ((hM.keepB (unhide HBI) hM.lt).keepB hb (hM.keepB (unhide HBI) hM.lt).lt) (((unhide HK2).keepB (unhide HBI) (unhide HK2).lt).keepB hb ((unhide HK2).keepB (unhide HBI) (unhide HK2).lt).lt))
  have ZB : Hid (w.heap.size ≤ b2) := hide (by omega)
  clear hr qr0 KG1 hM hC h12 hz1 hzW HK2 HBI HS HN
  go_wp2_with fail
  rw [unhide HWI]
  refine (unhide qr _).mono ?_
  rintro e w2 ⟨rfl, h2⟩
  have B2 := hide (bTr (unhide BI) h2)
  have H2 := hide h2
  clear qr c0 c1 c2 c3
  have c0 := ((unhide HR).keep h2).at (o := 0) (v := .int .i64 a.x) rfl
  have c1 := ((unhide HR).keep h2).at (o := 1) (v := .int .i64 a.n) rfl
  have c2 := ((unhide HR).keep h2).at (o := 2) (v := .string a.t) rfl
  have c3 := ((unhide HR).keep h2).at (o := 3) (v := .string a.y) rfl
  have d0 := ((unhide HI).keep h2).at (o := 0) (v := .map (some b1)) rfl
  have d1 := ((unhide HI).keep h2).at (o := 1) (v := .map (some b2)) rfl
  rw [unhide HBB] at d0 d1
  clear h2 BI
  go_wp2_with fail
  refine (unhide qa _ (unhide H2)).mono ?_
  rintro e w3 ⟨bf, n, rfl, hk, hg⟩
  have B3 := hide ((unhide B2).grown hg (unhide B2).size (fun k e => by cases e; exact unhide ZB))
  have qk := hide (keysOfN (some bf) w3)
  have qs := hide (sortedFuncA bf n _ (unU lt a) w3 hk (fun x hx => by obtain ⟨u1, u2, _⟩ := unhide UR x hx; exact ⟨⟨refA.good u1, u2⟩, refA.ok u1 u2⟩) (fun x hx => (unhide UR x hx).2.2) (unhide ULN))
  clear hk hg qa H2 c0 c1 c2 c3 d0 d1
  go_wp2_with fail
  refine (unhide qk).mono ?_
  rintro e w4 ⟨rfl, rfl⟩
  clear qk
  go_wp2_with fail
  refine (unhide qs).mono ?_
  rintro e w5 ⟨v, ss, rfl, hss, hown, hb5⟩
  have SS := hide hss
  have OW := hide hown
  have z3 := (unhide B3).size
  have B4 := hide (bTr (unhide B3) (bAl (Below.refl _ _) (.cells #[.map (some bf)] 69)))
  have B5 := hide (bTr (unhide B4) hb5)
  clear hss hown hb5 qs
  go_wp2_with fail
  go_ret
  refine ⟨⟨v, ss, rfl, .inl ⟨unhide GG, unhide HRA, ?_, srt_pw (unhide SS).1 (unhide SS).2.2⟩, own_base (unhide OW) (unhide B4).size⟩, unhide B5⟩
  rw [← unhide PE]
  exact (unhide SS).2.1
end Go.Proofs.YtpfekkhnjaopdaaGreat.V
