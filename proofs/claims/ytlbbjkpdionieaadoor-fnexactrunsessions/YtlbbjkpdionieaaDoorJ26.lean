/- LPe, LPf, LPg, one behind the other. -/
import Derived.Test.YtlbbjkpdionieaaDoorJ25
import Derived.Conc.SmallLaws
/- Sessions: the channel of a user. -/
namespace Go.Proofs.YtlbbjkpdionieaaDoor
set_option linter.unusedSimpArgs false
set_option linter.unusedVariables false
set_option maxRecDepth 20000
open Go.RowKit Go.Maps


theorem info_st : ∃ i, Tryd.prog.info? 105 = some i ∧ i.bytes = 0 := by
  have h : (Tryd.prog.info? 105).map (·.bytes) = some 0 := by kernel_rfl
  obtain ⟨i, hi, hb⟩ := Option.map_eq_some_iff.1 h
  exact ⟨i, hi, hb⟩
theorem mkCh (W : World) : (Instr.makeChan 94 (.int .i64 0)).run Tryd.prog W = .ok (.chan (some W.heap.size)) (W.alloc (.chan 0 #[] false 0 0 false)) := by
  obtain ⟨i, hi, hb⟩ := info_st
  simpa using Go.Conc.run_makeChan (P := Tryd.prog) (w := W) Tryd.underlying94 hi .i64 0 (by omega) (by rw [hb]; omega)
/-- What asking for a user's channel comes to. -/
def EvOf (w : World) (me n : Nat) (M : ByteArray → Option Value) (u : ByteArray) (c : Nat) (w' : World) : Prop :=
  (M u = some (.chan (some c)) ∧ KM Tryd.prog 9 Value.string w' me n M ∧ Below w.heap.size w w') ∨ (M u = none ∧ w.heap.size ≤ c ∧ ChanAt w' c false ∧ KM Tryd.prog 9 Value.string w' me (n + 1) (updK M u (.chan (some c))) ∧ But3 me me me w w')
set_option maxHeartbeats 4000000 in
theorem everywhereOf_low (b mo me n : Nat) (ka : Option Addr) (kl kc : Nat) (x : SsT) (ov : Value) (M : ByteArray → Option Value) (u : ByteArray) (w : World) (hv : RowIs w b (vC ka kl kc x mo me ov) 82) (hm : KM Tryd.prog 9 Value.string w me n M) (hn : n ≤ 1000) (hu : u.size ≤ maxLen) (hc : ∀ v, M u = some v → ∃ c, v = .chan (some c)) :
    Calls Tryd.prog 51 #[.pointer (some ⟨b, 0, none⟩), .string u] w fun e w' => ∃ c, e = .returned (.chan (some c)) ∧ EvOf w me n M u c w' := by
  have HV := hide hv
  have HK := hide hm
  have hz : ∀ w, (zeroValue 94).run Tryd.prog w = .ok (.chan none) w := fun w => by kernel_rfl
  have c6 := hv.at (o := 6) (v := .map (some me)) rfl
  have cz := hv.lt
  cases hM : M u with
  | some v =>
    obtain ⟨c, rfl⟩ := hc v hM
    have er := hide (show (M u).isSome = true by rw [hM]; rfl)
    have ev := hide (show (M u).getD (.chan none) = .chan (some c) by rw [hM]; rfl)
    have HM := hide hM
    clear hv hm hc hM
    go_enter Tryd.func51, Tryd.ntmps51
    go_wp2_with (first | (at_lookup; refine wpList_look_km _ kStr rfl _ _ _ rfl _ Tryd.underlying79 (hz _) me n _ rfl (unhide HK) u rfl hu _ _ (unhide ev) (unhide er) ?_) | (at_lookup; refine wpList_get_km _ kStr rfl _ _ _ rfl _ Tryd.underlying79 (hz _) me n _ rfl (unhide HK) u rfl hu _ (unhide ev) ?_))
    go_ret
    exact ⟨c, rfl, .inl ⟨unhide HM, unhide HK, Below.refl _ _⟩⟩
  | none =>
    have er := hide (show (M u).isSome = false by rw [hM]; rfl)
    have ev := hide (show (M u).getD (.chan none) = .chan none by rw [hM]; rfl)
    have HM := hide hM
    clear hv hm hc hM
    obtain ⟨W1, hW1⟩ : ∃ W, W = w.alloc (.chan 0 #[] false 0 0 false) := ⟨_, rfl⟩
    have b1 : Below w.heap.size w W1 := by rw [hW1]; exact bAl (Below.refl _ _) _
    have bd : Below w.heap.size w W1.drew := bTr b1 (Below.refl _ _).drew
    have CH : ChanAt W1.drew w.heap.size false := ⟨0, 0, by show W1.heap[w.heap.size]? = _; rw [hW1]; exact heap_alloc_new _ _⟩
    obtain ⟨w5, hrun5, hk5, hg5, hs5⟩ := put_run (t := 79) kStr Tryd.underlying79 ((unhide HK).keepB bd (unhide HK).lt) (by unfold maxLen; omega) u (.chan (some w.heap.size)) hu
    have nm : w.heap.size ≠ me := by have := (unhide HK).lt; omega
    have CH5 := hide (CH.same (hg5.block _ CH.lt (fun e => nm (Option.some.inj e))))
    have K5 := hide hk5
    have B5 := hide ((But3.of (p := me) (q := me) (r := me) bd).trans (But3.grown hg5))
    have V5 := hide (row_grown ((unhide HV).keep bd) hg5 (fun e => by
      have q := (unhide HV)
      obtain ⟨es, cl, e2⟩ := (unhide HK).is
      unfold RowIs at q
      rw [Option.some.inj e] at q
      rw [q] at e2
      cases e2))
    have d6 := (unhide V5).at (o := 6) (v := .map (some me)) rfl
    have dz := (unhide V5).lt
    have ev5 := hide (show (updK M u (.chan (some w.heap.size)) u).getD (.chan none) = .chan (some w.heap.size) by simp [updK])
    have hmk := mkCh
    rw [hW1] at hrun5
    clear b1 bd CH hk5 hg5 hW1
    go_enter Tryd.func51, Tryd.ntmps51
    go_wp2_with (at_lookup; refine wpList_look_km _ kStr rfl _ _ _ rfl _ Tryd.underlying79 (hz _) me n _ rfl (unhide HK) u rfl hu _ _ (unhide ev) (unhide er) ?_)
    go_region
    all_goals
      go_wp2_with (at_lookup; refine wpList_get_km _ kStr rfl _ _ _ rfl _ Tryd.underlying79 (hz _) me (n + 1) _ rfl (unhide K5) u rfl hu _ (unhide ev5) ?_)
      go_ret
      exact ⟨w.heap.size, rfl, .inr ⟨unhide HM, Nat.le_refl _, unhide CH5, unhide K5, unhide B5⟩⟩
end Go.Proofs.YtlbbjkpdionieaaDoor
/- Sessions: the form of an event, by the program. -/
namespace Go.Proofs.YtlbbjkpdionieaaDoor
set_option linter.unusedSimpArgs false
set_option linter.unusedVariables false
set_option maxRecDepth 20000
open Go.RowKit Go.Maps

set_option maxHeartbeats 4000000 in
theorem form_time (k t : Int) (u d i : ByteArray) (w : World) (hu : u.size ≤ maxLen) (hd : d.size ≤ maxLen) (ht : ¬ (0 ≤ t ∧ t ≤ 100000000000)) :
    Calls Tryd.prog 41 #[.agg #[.int .i64 k, .int .i64 t, .string u, .string d, .string i]] w fun e w' => Said e (fitE k t u d i) w w' := by
  obtain ⟨W2, hW2⟩ : ∃ W, W = w.alloc (.cells #[.int .i64 k, .int .i64 t, .string u, .string d, .string i] 50) := ⟨_, rfl⟩
  have b2 : Below w.heap.size w W2 := by rw [hW2]; exact bAl (Below.refl _ _) _
  have RE := hide (show RowIs W2 w.heap.size #[.int .i64 k, .int .i64 t, .string u, .string d, .string i] 50 by rw [hW2]; exact RowIs.new _ _ _)
  have HB := hide b2
  have HW := hide hW2.symm
  clear hW2 b2
  have qb := hide (bet_any 0 t 100000000000 W2)
  have e0 := (unhide RE).at (o := 0) (v := .int .i64 k) rfl
  have e1 := (unhide RE).at (o := 1) (v := .int .i64 t) rfl
  have e2 := (unhide RE).at (o := 2) (v := .string u) rfl
  have e3 := (unhide RE).at (o := 3) (v := .string d) rfl
  have e4 := (unhide RE).at (o := 4) (v := .string i) rfl
  have ez := (unhide RE).lt
  rw [decide_eq_false ht] at qb
  rw [fit_time ht]
  clear ht
  go_enter Tryd.func41, Tryd.ntmps41
  go_upto_region 1 with fail
  refine wp_world (unhide HW) ?_
  go_wp2_with fail
  refine (unhide qb).mono ?_
  rintro e w1 ⟨rfl, rfl⟩
  go_wp2_with fail
  go_ret
  exact ⟨rfl, unhide HB⟩
set_option maxHeartbeats 4000000 in
theorem form_kind (k t : Int) (u d i : ByteArray) (w : World) (hu : u.size ≤ maxLen) (hd : d.size ≤ maxLen) (ht : 0 ≤ t ∧ t ≤ 100000000000) (h1 : ¬ k = 1) (h2 : ¬ k = 2) (h3 : ¬ k = 3) (h4 : ¬ k = 4) (h5 : ¬ k = 5) :
    Calls Tryd.prog 41 #[.agg #[.int .i64 k, .int .i64 t, .string u, .string d, .string i]] w fun e w' => Said e (fitE k t u d i) w w' := by
  obtain ⟨W2, hW2⟩ : ∃ W, W = w.alloc (.cells #[.int .i64 k, .int .i64 t, .string u, .string d, .string i] 50) := ⟨_, rfl⟩
  have b2 : Below w.heap.size w W2 := by rw [hW2]; exact bAl (Below.refl _ _) _
  have RE := hide (show RowIs W2 w.heap.size #[.int .i64 k, .int .i64 t, .string u, .string d, .string i] 50 by rw [hW2]; exact RowIs.new _ _ _)
  have HB := hide b2
  have HW := hide hW2.symm
  clear hW2 b2
  have qb := hide (bet_any 0 t 100000000000 W2)
  have e0 := (unhide RE).at (o := 0) (v := .int .i64 k) rfl
  have e1 := (unhide RE).at (o := 1) (v := .int .i64 t) rfl
  have e2 := (unhide RE).at (o := 2) (v := .string u) rfl
  have e3 := (unhide RE).at (o := 3) (v := .string d) rfl
  have e4 := (unhide RE).at (o := 4) (v := .string i) rfl
  have ez := (unhide RE).lt
  rw [decide_eq_true ht] at qb
  rw [fit_kind (by omega)]
  clear ht
  have n1 : (k == 1) = false := by simpa using h1
  have n2 : (k == 2) = false := by simpa using h2
  have n3 : (k == 3) = false := by simpa using h3
  have n4 : (k == 4) = false := by simpa using h4
  have n5 : (k == 5) = false := by simpa using h5
  go_enter Tryd.func41, Tryd.ntmps41
  go_upto_region 1 with fail
  refine wp_world (unhide HW) ?_
  go_wp2_with fail
  refine (unhide qb).mono ?_
  rintro e w1 ⟨rfl, rfl⟩
  go_wp2_with fail
  go_ret
  exact ⟨rfl, unhide HB⟩
set_option maxHeartbeats 4000000 in
theorem form_1 (t : Int) (u d i : ByteArray) (w : World) (hu : u.size ≤ maxLen) (hd : d.size ≤ maxLen) (ht : 0 ≤ t ∧ t ≤ 100000000000) :
    Calls Tryd.prog 41 #[.agg #[.int .i64 1, .int .i64 t, .string u, .string d, .string i]] w fun e w' => Said e (fitE 1 t u d i) w w' := by
  obtain ⟨W2, hW2⟩ : ∃ W, W = w.alloc (.cells #[.int .i64 1, .int .i64 t, .string u, .string d, .string i] 50) := ⟨_, rfl⟩
  have b2 : Below w.heap.size w W2 := by rw [hW2]; exact bAl (Below.refl _ _) _
  have RE := hide (show RowIs W2 w.heap.size #[.int .i64 1, .int .i64 t, .string u, .string d, .string i] 50 by rw [hW2]; exact RowIs.new _ _ _)
  have HB := hide b2
  have HW := hide hW2.symm
  clear hW2 b2
  have qb := hide (bet_any 0 t 100000000000 W2)
  have e0 := (unhide RE).at (o := 0) (v := .int .i64 1) rfl
  have e1 := (unhide RE).at (o := 1) (v := .int .i64 t) rfl
  have e2 := (unhide RE).at (o := 2) (v := .string u) rfl
  have e3 := (unhide RE).at (o := 3) (v := .string d) rfl
  have e4 := (unhide RE).at (o := 4) (v := .string i) rfl
  have ez := (unhide RE).lt
  rw [decide_eq_true ht] at qb
  rw [fit_1 ht]
  clear ht
  go_enter Tryd.func41, Tryd.ntmps41
  go_upto_region 1 with fail
  refine wp_world (unhide HW) ?_
  go_wp2_with fail
  refine (unhide qb).mono ?_
  rintro e w1 ⟨rfl, rfl⟩
  go_wp2_with fail
  refine (iGoodName_any u hu _).mono ?_
  rintro e w2 ⟨rfl, hb2⟩
  replace RE := hide ((unhide RE).keep hb2)
  replace HB := hide (bTr (unhide HB) hb2)
  clear hb2 e0 e1 e2 e3 e4 ez
  have e0 := (unhide RE).at (o := 0) (v := .int .i64 1) rfl
  have e1 := (unhide RE).at (o := 1) (v := .int .i64 t) rfl
  have e2 := (unhide RE).at (o := 2) (v := .string u) rfl
  have e3 := (unhide RE).at (o := 3) (v := .string d) rfl
  have e4 := (unhide RE).at (o := 4) (v := .string i) rfl
  have ez := (unhide RE).lt
  cases hgu : goodName u with
  | false =>
    go_wp2_with fail
    go_ret
    exact ⟨by simp [emp, hgu], unhide HB⟩
  | true =>
    go_wp2_with fail
    refine (iGoodName_any d hd _).mono ?_
    rintro e w3 ⟨rfl, hb3⟩
    replace RE := hide ((unhide RE).keep hb3)
    replace HB := hide (bTr (unhide HB) hb3)
    clear hb3 e0 e1 e2 e3 e4 ez
    have e0 := (unhide RE).at (o := 0) (v := .int .i64 1) rfl
    have e1 := (unhide RE).at (o := 1) (v := .int .i64 t) rfl
    have e2 := (unhide RE).at (o := 2) (v := .string u) rfl
    have e3 := (unhide RE).at (o := 3) (v := .string d) rfl
    have e4 := (unhide RE).at (o := 4) (v := .string i) rfl
    have ez := (unhide RE).lt
    cases hgd : goodName d with
    | false =>
      go_wp2_with fail
      go_ret
      exact ⟨by simp [emp, hgu, hgd], unhide HB⟩
    | true =>
      cases hii : (i.toList == [])
      all_goals
        go_wp2_with fail
        go_ret
        exact ⟨by simp [emp, hgu, hgd, hii], unhide HB⟩
set_option maxHeartbeats 4000000 in
theorem form_5 (t : Int) (u d i : ByteArray) (w : World) (hu : u.size ≤ maxLen) (hd : d.size ≤ maxLen) (ht : 0 ≤ t ∧ t ≤ 100000000000) :
    Calls Tryd.prog 41 #[.agg #[.int .i64 5, .int .i64 t, .string u, .string d, .string i]] w fun e w' => Said e (fitE 5 t u d i) w w' := by
  obtain ⟨W2, hW2⟩ : ∃ W, W = w.alloc (.cells #[.int .i64 5, .int .i64 t, .string u, .string d, .string i] 50) := ⟨_, rfl⟩
  have b2 : Below w.heap.size w W2 := by rw [hW2]; exact bAl (Below.refl _ _) _
  have RE := hide (show RowIs W2 w.heap.size #[.int .i64 5, .int .i64 t, .string u, .string d, .string i] 50 by rw [hW2]; exact RowIs.new _ _ _)
  have HB := hide b2
  have HW := hide hW2.symm
  clear hW2 b2
  have qb := hide (bet_any 0 t 100000000000 W2)
  have e0 := (unhide RE).at (o := 0) (v := .int .i64 5) rfl
  have e1 := (unhide RE).at (o := 1) (v := .int .i64 t) rfl
  have e2 := (unhide RE).at (o := 2) (v := .string u) rfl
  have e3 := (unhide RE).at (o := 3) (v := .string d) rfl
  have e4 := (unhide RE).at (o := 4) (v := .string i) rfl
  have ez := (unhide RE).lt
  rw [decide_eq_true ht] at qb
  rw [fit_5 ht]
  clear ht
  go_enter Tryd.func41, Tryd.ntmps41
  go_upto_region 1 with fail
  refine wp_world (unhide HW) ?_
  go_wp2_with fail
  refine (unhide qb).mono ?_
  rintro e w1 ⟨rfl, rfl⟩
  go_wp2_with fail
  refine (iGoodName_any u hu _).mono ?_
  rintro e w2 ⟨rfl, hb2⟩
  replace RE := hide ((unhide RE).keep hb2)
  replace HB := hide (bTr (unhide HB) hb2)
  clear hb2 e0 e1 e2 e3 e4 ez
  have e0 := (unhide RE).at (o := 0) (v := .int .i64 5) rfl
  have e1 := (unhide RE).at (o := 1) (v := .int .i64 t) rfl
  have e2 := (unhide RE).at (o := 2) (v := .string u) rfl
  have e3 := (unhide RE).at (o := 3) (v := .string d) rfl
  have e4 := (unhide RE).at (o := 4) (v := .string i) rfl
  have ez := (unhide RE).lt
  cases hgu : goodName u with
  | false =>
    go_wp2_with fail
    go_ret
    exact ⟨by simp [emp, hgu], unhide HB⟩
  | true =>
    cases hid : (d.toList == []) <;> cases hii : (i.toList == [])
    all_goals
      go_wp2_with fail
      go_ret
      exact ⟨by simp [emp, hgu, hid, hii], unhide HB⟩
set_option maxHeartbeats 4000000 in
theorem form_2 (t : Int) (u d i : ByteArray) (w : World) (hu : u.size ≤ maxLen) (hd : d.size ≤ maxLen) (ht : 0 ≤ t ∧ t ≤ 100000000000) :
    Calls Tryd.prog 41 #[.agg #[.int .i64 2, .int .i64 t, .string u, .string d, .string i]] w fun e w' => Said e (fitE 2 t u d i) w w' := by
  obtain ⟨W2, hW2⟩ : ∃ W, W = w.alloc (.cells #[.int .i64 2, .int .i64 t, .string u, .string d, .string i] 50) := ⟨_, rfl⟩
  have b2 : Below w.heap.size w W2 := by rw [hW2]; exact bAl (Below.refl _ _) _
  have RE := hide (show RowIs W2 w.heap.size #[.int .i64 2, .int .i64 t, .string u, .string d, .string i] 50 by rw [hW2]; exact RowIs.new _ _ _)
  have HB := hide b2
  have HW := hide hW2.symm
  clear hW2 b2
  have qb := hide (bet_any 0 t 100000000000 W2)
  have e0 := (unhide RE).at (o := 0) (v := .int .i64 2) rfl
  have e1 := (unhide RE).at (o := 1) (v := .int .i64 t) rfl
  have e2 := (unhide RE).at (o := 2) (v := .string u) rfl
  have e3 := (unhide RE).at (o := 3) (v := .string d) rfl
  have e4 := (unhide RE).at (o := 4) (v := .string i) rfl
  have ez := (unhide RE).lt
  rw [decide_eq_true ht] at qb
  rw [fit_m ht (by omega)]
  clear ht
  cases hiu : (u.toList == []) with
  | false =>
    go_enter Tryd.func41, Tryd.ntmps41
    go_upto_region 1 with fail
    refine wp_world (unhide HW) ?_
    go_wp2_with fail
    refine (unhide qb).mono ?_
    rintro e w1 ⟨rfl, rfl⟩
    go_wp2_with fail
    go_ret
    exact ⟨by simp [emp, hiu], unhide HB⟩
  | true =>
    go_enter Tryd.func41, Tryd.ntmps41
    go_upto_region 1 with fail
    refine wp_world (unhide HW) ?_
    go_wp2_with fail
    refine (unhide qb).mono ?_
    rintro e w1 ⟨rfl, rfl⟩
    go_wp2_with fail
    refine (iGoodName_any d hd _).mono ?_
    rintro e w2 ⟨rfl, hb2⟩
    replace RE := hide ((unhide RE).keep hb2)
    replace HB := hide (bTr (unhide HB) hb2)
    clear hb2 e0 e1 e2 e3 e4 ez
    have e0 := (unhide RE).at (o := 0) (v := .int .i64 2) rfl
    have e1 := (unhide RE).at (o := 1) (v := .int .i64 t) rfl
    have e2 := (unhide RE).at (o := 2) (v := .string u) rfl
    have e3 := (unhide RE).at (o := 3) (v := .string d) rfl
    have e4 := (unhide RE).at (o := 4) (v := .string i) rfl
    have ez := (unhide RE).lt
    cases hgd : goodName d
    all_goals
      go_wp2_with fail
      go_ret
      exact ⟨by simp [emp, hiu, hgd], unhide HB⟩
set_option maxHeartbeats 4000000 in
theorem form_3 (t : Int) (u d i : ByteArray) (w : World) (hu : u.size ≤ maxLen) (hd : d.size ≤ maxLen) (ht : 0 ≤ t ∧ t ≤ 100000000000) :
    Calls Tryd.prog 41 #[.agg #[.int .i64 3, .int .i64 t, .string u, .string d, .string i]] w fun e w' => Said e (fitE 3 t u d i) w w' := by
  obtain ⟨W2, hW2⟩ : ∃ W, W = w.alloc (.cells #[.int .i64 3, .int .i64 t, .string u, .string d, .string i] 50) := ⟨_, rfl⟩
  have b2 : Below w.heap.size w W2 := by rw [hW2]; exact bAl (Below.refl _ _) _
  have RE := hide (show RowIs W2 w.heap.size #[.int .i64 3, .int .i64 t, .string u, .string d, .string i] 50 by rw [hW2]; exact RowIs.new _ _ _)
  have HB := hide b2
  have HW := hide hW2.symm
  clear hW2 b2
  have qb := hide (bet_any 0 t 100000000000 W2)
  have e0 := (unhide RE).at (o := 0) (v := .int .i64 3) rfl
  have e1 := (unhide RE).at (o := 1) (v := .int .i64 t) rfl
  have e2 := (unhide RE).at (o := 2) (v := .string u) rfl
  have e3 := (unhide RE).at (o := 3) (v := .string d) rfl
  have e4 := (unhide RE).at (o := 4) (v := .string i) rfl
  have ez := (unhide RE).lt
  rw [decide_eq_true ht] at qb
  rw [fit_m ht (by omega)]
  clear ht
  cases hiu : (u.toList == []) with
  | false =>
    go_enter Tryd.func41, Tryd.ntmps41
    go_upto_region 1 with fail
    refine wp_world (unhide HW) ?_
    go_wp2_with fail
    refine (unhide qb).mono ?_
    rintro e w1 ⟨rfl, rfl⟩
    go_wp2_with fail
    go_ret
    exact ⟨by simp [emp, hiu], unhide HB⟩
  | true =>
    go_enter Tryd.func41, Tryd.ntmps41
    go_upto_region 1 with fail
    refine wp_world (unhide HW) ?_
    go_wp2_with fail
    refine (unhide qb).mono ?_
    rintro e w1 ⟨rfl, rfl⟩
    go_wp2_with fail
    refine (iGoodName_any d hd _).mono ?_
    rintro e w2 ⟨rfl, hb2⟩
    replace RE := hide ((unhide RE).keep hb2)
    replace HB := hide (bTr (unhide HB) hb2)
    clear hb2 e0 e1 e2 e3 e4 ez
    have e0 := (unhide RE).at (o := 0) (v := .int .i64 3) rfl
    have e1 := (unhide RE).at (o := 1) (v := .int .i64 t) rfl
    have e2 := (unhide RE).at (o := 2) (v := .string u) rfl
    have e3 := (unhide RE).at (o := 3) (v := .string d) rfl
    have e4 := (unhide RE).at (o := 4) (v := .string i) rfl
    have ez := (unhide RE).lt
    cases hgd : goodName d
    all_goals
      go_wp2_with fail
      go_ret
      exact ⟨by simp [emp, hiu, hgd], unhide HB⟩
set_option maxHeartbeats 4000000 in
theorem form_4 (t : Int) (u d i : ByteArray) (w : World) (hu : u.size ≤ maxLen) (hd : d.size ≤ maxLen) (ht : 0 ≤ t ∧ t ≤ 100000000000) :
    Calls Tryd.prog 41 #[.agg #[.int .i64 4, .int .i64 t, .string u, .string d, .string i]] w fun e w' => Said e (fitE 4 t u d i) w w' := by
  obtain ⟨W2, hW2⟩ : ∃ W, W = w.alloc (.cells #[.int .i64 4, .int .i64 t, .string u, .string d, .string i] 50) := ⟨_, rfl⟩
  have b2 : Below w.heap.size w W2 := by rw [hW2]; exact bAl (Below.refl _ _) _
  have RE := hide (show RowIs W2 w.heap.size #[.int .i64 4, .int .i64 t, .string u, .string d, .string i] 50 by rw [hW2]; exact RowIs.new _ _ _)
  have HB := hide b2
  have HW := hide hW2.symm
  clear hW2 b2
  have qb := hide (bet_any 0 t 100000000000 W2)
  have e0 := (unhide RE).at (o := 0) (v := .int .i64 4) rfl
  have e1 := (unhide RE).at (o := 1) (v := .int .i64 t) rfl
  have e2 := (unhide RE).at (o := 2) (v := .string u) rfl
  have e3 := (unhide RE).at (o := 3) (v := .string d) rfl
  have e4 := (unhide RE).at (o := 4) (v := .string i) rfl
  have ez := (unhide RE).lt
  rw [decide_eq_true ht] at qb
  rw [fit_m ht (by omega)]
  clear ht
  cases hiu : (u.toList == []) with
  | false =>
    go_enter Tryd.func41, Tryd.ntmps41
    go_upto_region 1 with fail
    refine wp_world (unhide HW) ?_
    go_wp2_with fail
    refine (unhide qb).mono ?_
    rintro e w1 ⟨rfl, rfl⟩
    go_wp2_with fail
    go_ret
    exact ⟨by simp [emp, hiu], unhide HB⟩
  | true =>
    go_enter Tryd.func41, Tryd.ntmps41
    go_upto_region 1 with fail
    refine wp_world (unhide HW) ?_
    go_wp2_with fail
    refine (unhide qb).mono ?_
    rintro e w1 ⟨rfl, rfl⟩
    go_wp2_with fail
    refine (iGoodName_any d hd _).mono ?_
    rintro e w2 ⟨rfl, hb2⟩
    replace RE := hide ((unhide RE).keep hb2)
    replace HB := hide (bTr (unhide HB) hb2)
    clear hb2 e0 e1 e2 e3 e4 ez
    have e0 := (unhide RE).at (o := 0) (v := .int .i64 4) rfl
    have e1 := (unhide RE).at (o := 1) (v := .int .i64 t) rfl
    have e2 := (unhide RE).at (o := 2) (v := .string u) rfl
    have e3 := (unhide RE).at (o := 3) (v := .string d) rfl
    have e4 := (unhide RE).at (o := 4) (v := .string i) rfl
    have ez := (unhide RE).lt
    cases hgd : goodName d
    all_goals
      go_wp2_with fail
      go_ret
      exact ⟨by simp [emp, hiu, hgd], unhide HB⟩
theorem form_any (k t : Int) (u d i : ByteArray) (w : World) (hu : u.size ≤ maxLen) (hd : d.size ≤ maxLen) :
    Calls Tryd.prog 41 #[.agg #[.int .i64 k, .int .i64 t, .string u, .string d, .string i]] w fun e w' => Said e (fitE k t u d i) w w' := by
  by_cases ht : 0 ≤ t ∧ t ≤ 100000000000
  rotate_left
  · exact form_time k t u d i w hu hd ht
  by_cases h1 : k = 1
  · subst h1; exact form_1 t u d i w hu hd ht
  by_cases h2 : k = 2
  · subst h2; exact form_2 t u d i w hu hd ht
  by_cases h3 : k = 3
  · subst h3; exact form_3 t u d i w hu hd ht
  by_cases h4 : k = 4
  · subst h4; exact form_4 t u d i w hu hd ht
  by_cases h5 : k = 5
  · subst h5; exact form_5 t u d i w hu hd ht
  · exact form_kind k t u d i w hu hd ht h1 h2 h3 h4 h5
end Go.Proofs.YtlbbjkpdionieaaDoor
/- Sessions: what the program keeps while a session is made. -/
namespace Go.Proofs.YtlbbjkpdionieaaDoor
set_option linter.unusedSimpArgs false
set_option linter.unusedVariables false
set_option maxRecDepth 20000
open Go.RowKit Go.Maps


section
variable {w0 w : World} {b : Nat} {ka : Option Addr} {kl kc : Nat} {x : SsT} {mo me : Nat} {ov : Value} {Q : List BlT} {M : ByteArray → Option Value} {n : Nat}
theorem PsAt.every (h : PsAt w0 w b ka kl kc x mo me ov Q M n) {u : ByteArray} {c : Nat} {w' : World} (hE : EvOf w me n M u c w') :
    ∃ M' n', n' ≤ n + 1 ∧ PsAt w0 w' b ka kl kc x mo me ov Q M' n' ∧ M' u = some (.chan (some c)) ∧ ((∃ u', M u' = some (.chan (some c))) ∨ w.heap.size ≤ c) ∧ (∀ v c', M' v = some (.chan (some c')) → c' = c ∨ ∃ v', M v' = some (.chan (some c'))) ∧ But3 me me me w w' := by
  rcases hE with ⟨e, hk, hb⟩ | ⟨e, hc, hch, hk, hb⟩
  · exact ⟨M, n, by omega, h.keep hb, e, .inl ⟨u, e⟩, fun v c' hv => .inr ⟨v, hv⟩, But3.of hb⟩
  · have ne : ∀ g, g < w.heap.size → g ≠ me → w'.heap[g]? = w.heap[g]? := fun g hg hn => hb.block g hg hn hn hn
    have mem : ∃ es cl, w.heap[me]? = some (.map es cl) := h.evm.is
    obtain ⟨es, cl, em⟩ := mem
    have row : ∀ {g : Nat} {C : Array Value} {T : TypeId}, RowIs w g C T → RowIs w' g C T := fun {g C T} hr => by
      have hl := hr.lt
      unfold RowIs at *
      rw [ne g hl (by rintro rfl; rw [em] at hr; cases hr)]
      exact hr
    have ch : ∀ {k : Nat} {d : Bool}, ChanAt w k d → ChanAt w' k d := fun {k d} hc => hc.same (ne k hc.lt (by
      rintro rfl
      obtain ⟨s, r, e2⟩ := hc
      rw [em] at e2
      cases e2))
    have upd : ∀ v, v ≠ u → updK M u (.chan (some c)) v = M v := fun v hv => by unfold updK; rw [if_neg hv]
    have upu : updK M u (.chan (some c)) u = some (.chan (some c)) := by unfold updK; rw [if_pos rfl]
    have old : ∀ v c', M v = some (.chan (some c')) → c' < w.heap.size := fun v c' hv => by
      obtain ⟨c2, a1, a2, _, _⟩ := h.m1 v _ hv
      cases a1
      exact a2.lt
    refine ⟨updK M u (.chan (some c)), n + 1, Nat.le_refl _, ⟨row h.box, h.len, fun i hi hi' => row (h.ses i hi hi'), fun i hi => ch (h.che i hi), fun i hi => ch (h.chv i hi), h.dd, h.sbA, h.enA, h.nv, h.idm.block (ne mo h.idm.lt h.lom.2.2.1), hk, fun v w2 hv => ?_, fun i hi hi' => ?_, fun v v' w2 hv hv' => ?_, own_blk h.own (fun g hg => ?_), h.lows, h.lom, ?_, h.lo⟩, upu, .inr hc, fun v c' hv => ?_, hb⟩
    · by_cases e2 : v = u
      · subst e2
        rw [upu] at hv
        cases hv
        exact ⟨c, rfl, hch, by have := h.box.lt; omega, fun i hi => by have := (h.che i hi).lt; omega⟩
      · rw [upd v e2] at hv
        obtain ⟨c2, a1, a2, a3, a4⟩ := h.m1 v w2 hv
        exact ⟨c2, a1, ch a2, a3, a4⟩
    · rcases h.m2 i hi hi' with q | q
      · exact .inl q
      · refine .inr ?_
        rw [upd _ (fun e2 => by rw [e2, e] at q; cases q)]
        exact q
    · by_cases e2 : v = u
      · by_cases e3 : v' = u
        · rw [e2, e3]
        · rw [e2, upu] at hv
          rw [upd v' e3] at hv'
          cases hv
          have := old v' c hv'
          omega
      · by_cases e3 : v' = u
        · rw [e3, upu] at hv'
          rw [upd v e2] at hv
          cases hv'
          have := old v c hv
          omega
        · rw [upd v e2] at hv
          rw [upd v' e3] at hv'
          exact h.m3 v v' w2 hv hv'
    · obtain ⟨C, hC⟩ := own_is h.own hg
      exact ne g (h.own.lt g hg).2 (by rintro rfl; rw [em] at hC; cases hC)
    · have hlo := h.lo
      have hlm := h.lom
      exact ⟨hb.os.trans h.bel.os, hb.tape.trans h.bel.tape, hb.output.trans h.bel.output, Nat.le_trans h.bel.size hb.size, fun k hk => (ne k (by have := h.bel.size; omega) (by omega)).trans (h.bel.block k hk)⟩
    · by_cases e2 : v = u
      · subst e2
        rw [upu] at hv
        cases hv
        exact .inl rfl
      · rw [upd v e2] at hv
        exact .inr ⟨v, hv⟩
end
theorem Tch.but3 {b p : Nat} {w w' : World} (h : But3 p p p w w') (hb : b ≤ p) (hw : b ≤ w.heap.size) (hm : ∃ es cl, w.heap[p]? = some (.map es cl)) : Tch StI b w w' :=
  ⟨⟨h.os, h.tape, h.output, h.size, fun g hg => h.block g (by omega) (by omega) (by omega) (by omega)⟩, fun k C T f hk hn => by
    obtain ⟨es, cl, e⟩ := hm
    have ne : k ≠ p := by rintro rfl; rw [e] at hk; cases hk
    rw [h.block k (Array.getElem?_eq_some_iff.1 hk).1 ne ne ne]; exact hk⟩
structure PgE (w0 w1 : World) (b : Nat) (ka : Option Addr) (kl kc : Nat) (x : SsT) (mo me : Nat) (ov : Value) (Q : List BlT) (M : ByteArray → Option Value) (n : Nat) (ev : Array Value) (lim : Nat) (cn : Option Nat) (L : List (Nat × Obj)) (Z : World) : Prop where
  sp : PsAt w0 Z b ka kl kc x mo me ov Q M n
  tc : Tch StI w0.heap.size w1 Z
  re : RowIs Z w1.heap.size ev 50
  lm : lim ≤ Z.heap.size ∧ w1.heap.size < lim ∧ b < w1.heap.size
  qs : ∀ i (h : i < Q.length), Q[i].sb < lim ∧ Q[i].en < lim ∧ Q[i].ev < lim
  ol : ∀ g, ov.ownBlock = some g → g < lim
  ml : mo < lim ∧ me < lim
  mc : ∀ v c, M v = some (.chan (some c)) → c < lim ∨ cn = some c
  cz : ∀ c, cn = some c → c < Z.heap.size
  rows : ∀ y ∈ L, Z.heap[y.1]? = some y.2 ∧ lim ≤ y.1 ∧ cn ≠ some y.1
section
variable {w0 w1 : World} {b : Nat} {ka : Option Addr} {kl kc : Nat} {x : SsT} {mo me : Nat} {ov : Value} {Q : List BlT} {M : ByteArray → Option Value} {n : Nat} {ev : Array Value} {lim : Nat} {cn : Option Nat} {L : List (Nat × Obj)} {Z : World}
theorem PgE.start (h : PsAt w0 Z b ka kl kc x mo me ov Q M n) (tc : Tch StI w0.heap.size w1 Z) (re : RowIs Z w1.heap.size ev 50) (hb : b < w1.heap.size) : PgE w0 w1 b ka kl kc x mo me ov Q M n ev Z.heap.size none [] Z :=
  ⟨h, tc, re, ⟨Nat.le_refl _, re.lt, hb⟩, fun i hi => ⟨(h.ses i hi (h.okQ hi)).lt, (h.che i hi).lt, (h.chv i hi).lt⟩, fun g hg => (h.own.lt g hg).2, ⟨h.idm.lt, h.evm.lt⟩, fun v c hv => by
    obtain ⟨c2, a1, a2, _, _⟩ := h.m1 v _ hv
    cases a1
    exact .inl a2.lt, (fun c hc => by cases hc), (fun y hy => by cases hy)⟩
theorem PgE.keep {Z' : World} (h : PgE w0 w1 b ka kl kc x mo me ov Q M n ev lim cn L Z) (hb : Below Z.heap.size Z Z') : PgE w0 w1 b ka kl kc x mo me ov Q M n ev lim cn L Z' :=
  ⟨h.sp.keep hb, h.tc.trans (h.sp.tch hb), h.re.keep hb, ⟨Nat.le_trans h.lm.1 hb.size, h.lm.2⟩, h.qs, h.ol, h.ml, h.mc, fun c hc => Nat.lt_of_lt_of_le (h.cz c hc) hb.size, fun y hy => ⟨by rw [hb.block y.1 (Array.getElem?_eq_some_iff.1 (h.rows y hy).1).1]; exact (h.rows y hy).1, (h.rows y hy).2⟩⟩
theorem PgE.dr (h : PgE w0 w1 b ka kl kc x mo me ov Q M n ev lim cn L Z) : PgE w0 w1 b ka kl kc x mo me ov Q M n ev lim cn L Z.drew := h.keep (Below.refl _ _).drew
theorem PgE.alO (h : PgE w0 w1 b ka kl kc x mo me ov Q M n ev lim cn L Z) (o : Obj) (k : Nat) (hk : k = Z.heap.size) : PgE w0 w1 b ka kl kc x mo me ov Q M n ev lim cn ((k, o) :: L) (Z.alloc o) := by
  subst hk
  have q := h.keep (bAl (Below.refl _ _) o)
  refine ⟨q.sp, q.tc, q.re, q.lm, q.qs, q.ol, q.ml, q.mc, q.cz, fun y hy => ?_⟩
  rcases List.mem_cons.1 hy with rfl | hy
  · exact ⟨heap_alloc_new _ _, h.lm.1, fun e => by have := h.cz _ e; omega⟩
  · exact q.rows y hy
theorem ev_ev (h : PgE w0 w1 b ka kl kc x mo me ov Q M n ev lim none L Z) (hn : n ≤ 999) (u : ByteArray) (hu : u.size ≤ maxLen) :
    Calls Tryd.prog 51 #[.pointer (some ⟨b, 0, none⟩), .string u] Z fun e w' => ∃ c M' n', e = .returned (.chan (some c)) ∧ n' ≤ n + 1 ∧ M' u = some (.chan (some c)) ∧ PgE w0 w1 b ka kl kc x mo me ov Q M' n' ev lim (some c) L w' := by
  refine (everywhereOf_low b mo me n ka kl kc x ov M u Z h.sp.box h.sp.evm (by omega) hu (fun v hv => by obtain ⟨c, a1, _⟩ := h.sp.m1 u v hv; exact ⟨c, a1⟩)).mono ?_
  rintro e w' ⟨c, rfl, hE⟩
  obtain ⟨M', n', hn', hp, hu', hc, hall, hb⟩ := h.sp.every hE
  have hm := h.sp.evm.is
  obtain ⟨es, cl, em⟩ := hm
  have bz := h.sp.box.lt
  have lb := h.sp.lom
  have tc := Tch.but3 (b := w0.heap.size) hb (by omega) (by omega) ⟨es, cl, em⟩
  have nSE : ¬ StI 50 := by unfold StI; decide
  refine ⟨c, M', n', rfl, hn', hu', hp, h.tc.trans tc, tc.row h.re nSE, ⟨Nat.le_trans h.lm.1 hb.size, h.lm.2⟩, h.qs, h.ol, h.ml, fun v c' hv => ?_, fun c' hc' => ?_, fun y hy => ?_⟩
  · rcases hall v c' hv with q | ⟨v', q⟩
    · exact .inr (by rw [q])
    · rcases h.mc v' c' q with q2 | q2
      · exact .inl q2
      · cases q2
  · cases hc'
    obtain ⟨c2, a1, a2, _, _⟩ := hp.m1 u _ hu'
    cases a1
    exact a2.lt
  · obtain ⟨y1, y2, y3⟩ := h.rows y hy
    have yl := (Array.getElem?_eq_some_iff.1 y1).1
    have ym := h.ml.2
    refine ⟨by rw [hb.block y.1 yl (by omega) (by omega) (by omega)]; exact y1, y2, fun e => ?_⟩
    have e2 := Option.some.inj e
    rcases hc with ⟨u', q⟩ | q
    · rcases h.mc u' c q with q2 | q2
      · omega
      · cases q2
    · omega
end
end Go.Proofs.YtlbbjkpdionieaaDoor
