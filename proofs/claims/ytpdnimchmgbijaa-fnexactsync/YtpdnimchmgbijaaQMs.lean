/- impl.timeVector's lacks, impl.vectorOf, impl.changeLog's missing. -/
import Derived.Test.YtpdnimchmgbijaaQRcP
import Derived.Test.YtpdnimchmgbijaaQMapT
namespace Go.Proofs.Ytpdnimchmgbijaa
open Go.RowKit Go.Maps

/-- Block b is a vector; 0 may stand in it. -/
def VecN (w : World) (b n : Nat) (tv : Int → Int) : Prop :=
  ∃ D : DataW Unit, w.ownsMap Try.prog 3 (plainElem Try.prog 3) b n D ∧ ∀ a, okI a → D.atKey (.int .i64 a) (.lit (.int .i64 0)) = .lit (.int .i64 (tv a))
theorem VecM.toN {w : World} {b n : Nat} {tv : Int → Int} (h : VecM w b n tv) : VecN w b n tv := by
  obtain ⟨D, ho, hD, _⟩ := h; exact ⟨D, ho, hD⟩
theorem VecN.kept {w w' : World} {b n : Nat} {tv : Int → Int} {row : Option Nat} (h : VecN w b n tv) (hg : w.grownBy w' row) (hne : some b ≠ row) : VecN w' b n tv := by
  obtain ⟨D, ho, hD⟩ := h; exact ⟨D, ho.kept hg hne, hD⟩
theorem VecN.lt {w : World} {b n : Nat} {tv : Int → Int} (h : VecN w b n tv) : b < w.heap.size := by obtain ⟨D, ho, _⟩ := h; exact ho.lt
theorem VecN.keepB {w w' : World} {b n B : Nat} {tv : Int → Int} (h : VecN w b n tv) (hb : Below B w w') (hlt : b < B) : VecN w' b n tv := by
  obtain ⟨D, ⟨es, clock, h1, h2⟩, hD⟩ := h
  exact ⟨D, ⟨es, clock, (hb.block b hlt).trans h1, h2⟩, hD⟩
theorem VecN.made (w : World) : VecN (w.alloc (.map #[] 0)) w.heap.size 0 (fun _ => 0) := (VecM.made w).toN

section
variable (w : World) {ops : Array Oper} {rest : List Oper} {o : Oper} {a : Act} {Q : Exit → Act → World → Prop}
theorem wpList_look_vn (hg : o.guard = none) (m x : Operand) (hop : o.op = Op.lookup 49 m x false) (b n : Nat) (tv : Int → Int) (hm : a.eval m = .map (some b)) (hv : VecN w b n tv)
    (s : Int) (hx : a.eval x = .int .i64 s) (hs : okI s)
    (hK : okI (tv s) → wpList Try.prog ops Q rest (a.put o.dst (.int .i64 (tv s))) w) :
    wpList Try.prog ops Q (o :: rest) a w := by
  obtain ⟨D, hown, hD⟩ := hv
  refine wpList_lookup_own_int w hg m x _ hop 3 3 .i64 lawI Try.underlying49 Try.underlying3 (zeroI w) b n D hm hown (.int .i64 s) (.int .i64 s) hx (keyOf_int_mk Try.underlying3 hs) ?_
  intro c hat hwc
  have h := hD s hs
  rw [hat] at h
  simp at h
  subst h
  exact hK hwc
theorem wpList_put_vn (hg : o.guard = none) (m x v : Operand) (hop : o.op = Op.mapUpdate 49 m x v) (b n : Nat) (tv : Int → Int) (hm : a.eval m = .map (some b)) (hvec : VecN w b n tv) (hn : n < maxLen)
    (s t z : Int) (hx : a.eval x = .int .i64 s) (hv : a.eval v = .int .i64 z) (hz : z = max (tv s) t) (hs : okI s) (hzo : okI z)
    (hK : ∀ w', VecN w' b (n + 1) (upd tv s t) → w.grownBy w' (some b) → wpList Try.prog ops Q rest (a.put o.dst undef) w') :
    wpList Try.prog ops Q (o :: rest) a w := by
  obtain ⟨D, hown, hD⟩ := hvec
  refine wpList_mapUpdate_own w hg m x v _ hop 3 3 lawI Try.underlying49 _ b n D hm hown hn (.int .i64 s) (.int .i64 z) (.int .i64 s) hx hv (keyOf_int_mk Try.underlying3 hs) (.lit (.int .i64 z)) [] (plainElem_int Try.underlying3 hzo) ?_
  intro w' h1 h2
  refine hK w' ⟨_, h1, fun y hy => ?_⟩ h2
  by_cases e : y = s
  · subst e
    rw [Maps.atKey_put_same hown.isMap (by trivial), upd_same, hz]
  · rw [Maps.atKey_put_other (by simpa using e), upd_other tv e]
    exact hD y hy
end

theorem okI_max {a b : Int} (ha : okI a) (hb : okI b) : okI (max a b) := by
  rw [Int.max_def]; split <;> assumption
set_option maxRecDepth 100000 in
set_option maxHeartbeats 400000 in
theorem seeN_any (b n : Nat) (tv : Int → Int) (t s : Int) (w : World) (hv : VecN w b n tv) (hn : n < maxLen) (ht : okI t) (hs : okI s) :
    Calls Try.prog 34 #[.map (some b), .agg #[.int .i64 t, .int .i64 s]] w fun e w' => e = .returned (.tuple #[]) ∧ VecN w' b (n + 1) (upd tv s t) ∧ w.grownBy w' (some b) := by
  have HV := hide (hv.kept (World.grownBy_alloc w (.cells #[.int .i64 t, .int .i64 s] 43) none) (by simp))
  clear hv
  go_enter Try.func34, Try.ntmps34
  go_wp2_with (first
    | (at_lookup; refine wpList_look_vn _ rfl _ _ rfl b n tv rfl (unhide HV) s rfl hs ?_; intro hwc)
    | (at_mapUpdate; refine wpList_put_vn _ rfl _ _ _ rfl b n tv rfl (unhide HV) hn s t _ rfl rfl (by first | rfl | exact max_if _ _) hs (by first | exact okI_max hwc ht | exact okI_if hwc ht) ?_; intro w1 h1 hg1))
  all_goals go_end0
  all_goals exact ⟨rfl, h1, (World.grownBy_alloc w _ (some b)).trans hg1⟩

set_option maxRecDepth 100000 in
set_option maxHeartbeats 400000 in
theorem lacks_any (b n : Nat) (tv : Int → Int) (t s : Int) (w : World) (hv : VecN w b n tv) (hs : okI s) :
    Calls Try.prog 33 #[.map (some b), .agg #[.int .i64 t, .int .i64 s]] w fun e w' => e = .returned (.bool (decide (tv s < t))) ∧ Below w.heap.size w w' := by
  have HV := hide (hv.kept (World.grownBy_alloc w (.cells #[.int .i64 t, .int .i64 s] 43) none) (by simp))
  clear hv
  go_enter Try.func33, Try.ntmps33
  go_wp2_with (at_lookup; refine wpList_look_vn _ rfl _ _ rfl b n tv rfl (unhide HV) s rfl hs ?_; intro hwc)
  all_goals go_ret
  all_goals exact ⟨rfl, bAl (Below.refl _ _) _⟩

def vecV (tv : Int → Int) (l : List (Int × Int)) : Int → Int := l.foldl (fun tv x => upd tv x.2 x.1) tv
theorem vecV_snoc (tv : Int → Int) (l : List (Int × Int)) (k : Nat) (h : k < l.length) : vecV tv (l.take (k + 1)) = upd (vecV tv (l.take k)) l[k].2 l[k].1 := by
  unfold vecV
  rw [List.take_succ_eq_append_getElem h, List.foldl_append]; rfl

def StOk (q : Int × Int) : Prop := okI q.1 ∧ okI q.2
set_option maxRecDepth 100000 in
set_option maxHeartbeats 2000000 in
theorem missing_cm (bv bc n : Nat) (m : CMap) (L : List DcT) (b2 n2 : Nat) (tv : Int → Int) (w : World) (hc : CM w bc n m) (hn : n ≤ 1000000) (hm : MOk m) (hL : IsOrd m L) (hv : VecN w b2 n2 tv) :
    Calls Try.prog 19 #[.agg #[.map (some bv), .map (some bc)], .map (some b2)] w fun e w' => (∃ v, e = .returned v ∧ w'.ownsRow w.heap.size 46 9 v (L.filter fun c => decide (tv c.o < c.t)).length (dcsV (L.filter fun c => decide (tv c.o < c.t)))) ∧ Below w.heap.size w w' := by
  obtain ⟨i0, hi, hz0, hz1, hz2⟩ := info_parts info_change
  obtain ⟨W1, hW1⟩ : ∃ W', W' = w.alloc (.cells #[.map (some bv), .map (some bc)] 52) := ⟨_, rfl⟩
  have HC := show CM W1 bc n m by rw [hW1]; exact hc.kept (World.grownBy_alloc _ _ none) (by simp)
  have HV := hide (show VecN W1 b2 n2 tv by rw [hW1]; exact hv.kept (World.grownBy_alloc _ _ none) (by simp))
  have B1 := hide (show Below w.heap.size w W1 by rw [hW1]; exact bAl (Below.refl _ _) _)
  have qo := hide (inOrder_cm bv bc n m W1 HC hn hm)
  have hb2 := (unhide HV).lt
  have HOK := hide (show ∀ c ∈ L, okI c.o from fun c hc => (hm _ _ ((hL.mem c).1 hc)).2.2)
  have HW1 := hide hW1
  have UQ := hide (fun L' (h : IsOrd m L') => h.uniq hL)
  clear hc hv HC hW1 hm hL
  go_enter Try.func19, Try.ntmps19
  go_wp2_with fail
  rw [← unhide HW1]
  refine (unhide qo).mono ?_
  rintro e w2 ⟨⟨v, L', rfl, hL', hlen, ho⟩, hb⟩
  obtain rfl := unhide UQ L' hL'
  obtain ⟨a, cap, rfl, hsl⟩ := own_dcs ho
  have B2 := hide (bTr (unhide B1) hb)
  have HV2 := hide ((unhide HV).keepB hb hb2)
  have HSL := hide hsl
  have h29 := (unhide HV2).lt
  clear hL' ho hb qo UQ hsl HV hb2 HW1 B1
  have LN : L'.length ≤ 1000000 := by omega
  generalize hN : L'.length = N at LN HSL ⊢
  have HLN := hide hN
  clear hN hlen
  go_wp2_with fail
  go_loopw [5, 11] (fun v i w' => ∃ k : Nat, k ≤ N ∧ i = .int .i64 k ∧ Hid (w'.ownsRow w2.heap.size 46 9 v ((L'.take k).filter fun c => decide (tv c.o < c.t)).length (dcsV ((L'.take k).filter fun c => decide (tv c.o < c.t)))) ∧ Hid (Below w2.heap.size w2 w')) (fun _ i _ => N - (Go.RowKit.intOf i).toNat)
  case atStart => exact ⟨0, Nat.zero_le _, rfl, hide (World.ownsRow_nil _ _ _ _), hide (Below.refl _ _)⟩
  case round =>
    obtain ⟨k, hk, rfl, hO, hB⟩ := hrel
    by_cases hlt : k < N
    · have hk' : k < L'.length := by rw [unhide HLN]; exact hlt
      obtain ⟨g, off, rfl, hr⟩ := ((unhide HSL).keep (unhide hB)).at hlt
      have c0 := hr.c0 k hk'
      have c1 := hr.c1 k hk'
      have c2 := hr.c2 k hk'
      have c3 := hr.c3 k hk'
      have c4 := hr.c4 k hk'
      have c5 := hr.c5 k hk'
      have c6 := hr.c6 k hk'
      have c7 := hr.c7 k hk'
      have c8 := hr.c8 k hk'
      have eP := hide (show (L'.take (k + 1)).filter (fun c => decide (tv c.o < c.t)) = (L'.take k).filter (fun c => decide (tv c.o < c.t)) ++ (if tv L'[k].o < L'[k].t then [L'[k]] else []) by
        rw [List.take_succ_eq_append_getElem hk', List.filter_append]
        by_cases hp : tv L'[k].o < L'[k].t <;> simp [List.filter, hp])
      have lnP : ((L'.take k).filter fun c => decide (tv c.o < c.t)).length ≤ k := Nat.le_trans (List.length_filter_le _ _) (by rw [List.length_take]; omega)
      have hok := unhide HOK _ (List.getElem_mem hk')
      generalize (L'.take k).filter (fun c => decide (tv c.o < c.t)) = V at hO eP lnP
      have HX := hide hok
      clear hr hok
      generalize L'[k] = A at c0 c1 c2 c3 c4 c5 c6 c7 c8 eP HX
      have HVr := hide ((unhide HV2).keepB (unhide hB) h29)
      have HVa := hide (show ∀ o, VecN (wr.alloc o) b2 n2 tv from fun o => (unhide HVr).kept (World.grownBy_alloc _ _ none) (by simp))
      have RB := hide (RowIs.new wr #[.int .i64 A.t, .int .i64 A.o, .int .i64 A.k, .int .i64 A.u, .int .i64 A.p, .string A.pa, .string A.pt, .string A.a, .string A.x] 46)
      have BA := hide (bAl (Below.refl wr.heap.size wr) (.cells #[.int .i64 A.t, .int .i64 A.o, .int .i64 A.k, .int .i64 A.u, .int .i64 A.p, .string A.pa, .string A.pt, .string A.a, .string A.x] 46))
      go_wp2_with fail
      refine (lacks_any b2 n2 tv A.t A.o _ (unhide HVa _) (unhide HX)).mono ?_
      rintro e w4 ⟨rfl, hb4⟩
      have R4 := (unhide RB).keep hb4
      have B4 := hide (bTr (unhide BA) hb4)
      have O4 := hide (own_keep (unhide hO) (unhide B4))
      have B5 := hide (bTr (unhide hB) (unhide B4))
      have d0 := R4.at (o := 0) (v := .int .i64 A.t) rfl
      have d1 := R4.at (o := 1) (v := .int .i64 A.o) rfl
      have d2 := R4.at (o := 2) (v := .int .i64 A.k) rfl
      have d3 := R4.at (o := 3) (v := .int .i64 A.u) rfl
      have d4 := R4.at (o := 4) (v := .int .i64 A.p) rfl
      have d5 := R4.at (o := 5) (v := .string A.pa) rfl
      have d6 := R4.at (o := 6) (v := .string A.pt) rfl
      have d7 := R4.at (o := 7) (v := .string A.a) rfl
      have d8 := R4.at (o := 8) (v := .string A.x) rfl
      clear hb4 R4 RB BA HVa HVr c0 c1 c2 c3 c4 c5 c6 c7 c8 hO hB B4
      by_cases hp : tv A.o < A.t
      · replace eP := hide ((unhide eP).trans (show _ = V ++ [A] by rw [if_pos hp]))
        go_wp2_with (at_builtin; refine wpList_append_own _ rfl _ _ 24 rfl w2.heap.size 46 i0 _ 9 104 Try.underlying24 hi hz0 hz1 hz2 rfl (by decide) _ _ _ rfl ((unhide O4).alloc _) ⟨_, 0, none⟩ 1 1 (dcL A) rfl rfl (cell_new_at _ _ rfl _ _ _ rfl) (dcL_one A) (by unfold maxLen; omega) (by omega) (by have := (unhide B5).size; simp; omega) ?_; intro u5 x5 hown5 hgrow5 _; have G6 := hide hown5; have B6 := hide (below_append (unhide B5) (Nat.le_refl _) (unhide O4) hgrow5); clear hown5 hgrow5)
        exact ⟨⟨k + 1, by omega, by go_num, hide (by rw [unhide eP, dcsV_snoc, List.length_append]; exact unhide G6), B6⟩, by simp [Go.RowKit.intOf]; omega⟩
      · replace eP := hide ((unhide eP).trans (show _ = V by rw [if_neg hp, List.append_nil]))
        go_wp2_with fail
        exact ⟨⟨k + 1, by omega, by go_num, hide (by rw [unhide eP]; exact unhide O4), B5⟩, by simp [Go.RowKit.intOf]; omega⟩
    · have e : k = L'.length := by rw [unhide HLN]; omega
      have O9 := hide (show wr.ownsRow w.heap.size 46 9 _ (L'.filter fun c => decide (tv c.o < c.t)).length (dcsV (L'.filter fun c => decide (tv c.o < c.t))) by have := unhide hO; rw [e, List.take_length] at this; exact own_base2 this (unhide B2).size)
      have B9 := hide (bTr (unhide B2) (unhide hB))
      clear e
      go_wp2_with fail
      go_ret
      exact ⟨⟨_, rfl, unhide O9⟩, unhide B9⟩
end Go.Proofs.Ytpdnimchmgbijaa
