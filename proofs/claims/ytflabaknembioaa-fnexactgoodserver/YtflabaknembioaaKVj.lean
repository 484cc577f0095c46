/- impl: Client.isGood, GoodServer. -/
import Derived.Test.YtflabaknembioaaKVi
import Derived.BigQuiet
namespace Go.Proofs.Ytflabaknembioaa.V
set_option linter.unusedSimpArgs false
set_option linter.unusedVariables false
set_option maxRecDepth 20000
open Go.RowKit

set_option maxHeartbeats 1000000 in
theorem isPublic_any (e : ClientE) (w : World) : Calls Try.prog 34 #[.agg #[.string e.t.f0, .slice e.h1.a e.h1.len e.h1.cap, .slice e.h2.a e.h2.len e.h2.cap, .slice e.h3.a e.h3.len e.h3.cap, .slice e.h4.a e.h4.len e.h4.cap]] w fun r w' => r = .returned (.bool (decide ((e.h1.len : Int) = 0))) ∧ Below w.heap.size w w' := by
  go_enter Try.func34, Try.ntmps34
  go_wp2_with fail
  go_ret
  exact ⟨ret_bool (by rw [Bool.eq_iff_iff]; simp), bAl (Below.refl _ _) _⟩
set_option maxHeartbeats 4000000 in
theorem isGood_n (e : ClientE) (w : World) (hn : ClientN e.t) (hm : ClientM w 0 e) :
    Calls Try.prog 18 #[.agg #[.string e.t.f0, .slice e.h1.a e.h1.len e.h1.cap, .slice e.h2.a e.h2.len e.h2.cap, .slice e.h3.a e.h3.len e.h3.cap, .slice e.h4.a e.h4.len e.h4.cap]] w fun r w' => RetB r (GCl e.t) ∧ Below w.heap.size w w' := by
  have q0 := hide (fun w => isId_any e.t.f0 hn.o0 w)
  have q1 := hide (fun w => isPublic_any e w)
  have q2 := hide (fun (w' : World) (hb : Below w.heap.size w w') => goodList_red GRd 5 e.h2 e.t.f2 w' hn.l2 (hm.m2.keep hb) (fun x hx w'' _ => isRedirect_any x (hn.o2 x hx) w''))
  have q3 := hide (fun (w' : World) (hb : Below w.heap.size w w') => goodScopes_n e.h3 e.t.f3 w' hn.l3 hn.o3 (hm.m3.keep hb))
  have q4 := hide (fun (w' : World) (hb : Below w.heap.size w w') => goodList_knd GKd 4 e.h4 e.t.f4 w' hn.l4 (hm.m4.keep hb) (fun x _ w'' _ => isGrantKind_any x w''))
  have D : Hid (GCl e.t ↔ (idB e.t.f0 = true ∧ (e.h1.len = 0 ∨ e.h1.len = 16) ∧ ((e.t.f2.length : Int) ≤ 5 ∧ ∀ x ∈ e.t.f2, GRd x) ∧ GSc e.t.f3 ∧ ((e.t.f4.length : Int) ≤ 4 ∧ ∀ x ∈ e.t.f4, GKd x))) := hide (by
    have e1 := hm.m1.1
    constructor
    · rintro ⟨a, b, c, d, f, g, h⟩
      exact ⟨a, by omega, ⟨by omega, d⟩, f, by omega, h⟩
    · rintro ⟨a, b, ⟨c, d⟩, f, g, h⟩
      exact ⟨a, by omega, by omega, d, f, by omega, h⟩)
  generalize GCl e.t = G at D ⊢
  generalize ((e.t.f2.length : Int) ≤ 5 ∧ ∀ x ∈ e.t.f2, GRd x) = P2 at D q2
  generalize GSc e.t.f3 = P3 at D q3
  generalize ((e.t.f4.length : Int) ≤ 4 ∧ ∀ x ∈ e.t.f4, GKd x) = P4 at D q4
  generalize idB e.t.f0 = b0 at D q0
  obtain ⟨W, hW⟩ : ∃ W, W = w.alloc (.cells #[.string e.t.f0, .slice e.h1.a e.h1.len e.h1.cap, .slice e.h2.a e.h2.len e.h2.cap, .slice e.h3.a e.h3.len e.h3.cap, .slice e.h4.a e.h4.len e.h4.cap] 39) := ⟨_, rfl⟩
  have B := hide (show Below w.heap.size w W by rw [hW]; exact bAl (Below.refl _ _) _)
  have RW := hide (show RowIs W w.heap.size #[.string e.t.f0, .slice e.h1.a e.h1.len e.h1.cap, .slice e.h2.a e.h2.len e.h2.cap, .slice e.h3.a e.h3.len e.h3.cap, .slice e.h4.a e.h4.len e.h4.cap] 39 by rw [hW]; exact RowIs.new _ _ _)
  have HW := hide hW.symm
  clear hW hn hm
  go_enter Try.func18, Try.ntmps18
  go_wp2_with fail
  rw [unhide HW]
  clear HW
  refine (unhide q0 _).mono ?_
  rintro r w1 ⟨rfl, hb⟩
  replace B := hide (bTr (unhide B) hb)
  replace RW := hide ((unhide RW).keep hb)
  clear hb q0
  cases b0
  case false =>
    have no : Hid (¬ G) := hide (fun g => by have := ((unhide D).1 g).1; cases this)
    clear D q1 q2 q3 q4
    go_wp2_with fail
    go_ret
    exact ⟨retB (b := false) ⟨fun h => (by cases h), fun h => absurd h (unhide no)⟩, unhide B⟩
  have c0 := (unhide RW).at (o := 0) (v := .string e.t.f0) rfl
  have c1 := (unhide RW).at (o := 1) (v := .slice e.h1.a e.h1.len e.h1.cap) rfl
  have c2 := (unhide RW).at (o := 2) (v := .slice e.h2.a e.h2.len e.h2.cap) rfl
  have c3 := (unhide RW).at (o := 3) (v := .slice e.h3.a e.h3.len e.h3.cap) rfl
  have c4 := (unhide RW).at (o := 4) (v := .slice e.h4.a e.h4.len e.h4.cap) rfl
  go_wp2_with fail
  refine (unhide q1 _).mono ?_
  rintro r w2 ⟨rfl, hb⟩
  replace B := hide (bTr (unhide B) hb)
  replace RW := hide ((unhide RW).keep hb)
  clear hb q1 c0 c1 c2 c3 c4
  have c1 := (unhide RW).at (o := 1) (v := .slice e.h1.a e.h1.len e.h1.cap) rfl
  have c2 := (unhide RW).at (o := 2) (v := .slice e.h2.a e.h2.len e.h2.cap) rfl
  by_cases h16 : e.h1.len = 0 ∨ e.h1.len = 16
  case neg =>
    have no : Hid (¬ G) := hide (fun g => h16 ((unhide D).1 g).2.1)
    have d0 : decide ((e.h1.len : Int) = 0) = false := by simp; omega
    have d1 : ((e.h1.len : Int) == 16) = false := by simp; omega
    clear D q2 q3 q4 h16
    rw [d0]
    go_wp2_with fail
    go_ret
    exact ⟨retB (b := false) ⟨fun h => (by cases h), fun h => absurd h (unhide no)⟩, unhide B⟩
  have D2 : Hid (G ↔ (P2 ∧ P3 ∧ P4)) := hide ((unhide D).trans ⟨fun h => h.2.2, fun h => ⟨by trivial, h16, h⟩⟩)
  clear D
  have fin : ∀ (v : World) (hb : Below w2.heap.size w2 v), True := fun _ _ => trivial
  clear fin
  have d01 : (decide ((e.h1.len : Int) = 0) = true) ∨ (decide ((e.h1.len : Int) = 0) = false ∧ ((e.h1.len : Int) == 16) = true) := by
    rcases h16 with h | h
    · left; simp; omega
    · right; constructor
      · simp; omega
      · simp; omega
  clear h16
  generalize decide ((e.h1.len : Int) = 0) = u at d01 ⊢
  rcases d01 with d0 | ⟨d0, d1⟩
  all_goals
    subst d0
    go_wp2_with fail
    refine (unhide q2 _ (unhide B)).mono ?_
    rintro r w3 ⟨⟨v, rfl, hv⟩, hb⟩
    replace B := hide (bTr (unhide B) hb)
    replace RW := hide ((unhide RW).keep hb)
    have HV := hide hv
    clear hb q2 hv c1 c2
    cases v
    case false =>
      have no : Hid (¬ G) := hide (fun g => by have := (unhide HV).2 ((unhide D2).1 g).1; cases this)
      clear D2 q3 q4 HV
      go_wp2_with fail
      go_ret
      exact ⟨retB (b := false) ⟨fun h => (by cases h), fun h => absurd h (unhide no)⟩, unhide B⟩
    have c3 := (unhide RW).at (o := 3) (v := .slice e.h3.a e.h3.len e.h3.cap) rfl
    go_wp2_with fail
    refine (unhide q3 _ (unhide B)).mono ?_
    rintro r w4 ⟨⟨v, rfl, hv⟩, hb⟩
    replace B := hide (bTr (unhide B) hb)
    replace RW := hide ((unhide RW).keep hb)
    have HU := hide hv
    clear hb q3 hv c3
    cases v
    case false =>
      have no : Hid (¬ G) := hide (fun g => by have := (unhide HU).2 ((unhide D2).1 g).2.1; cases this)
      clear D2 q4 HV HU
      go_wp2_with fail
      go_ret
      exact ⟨retB (b := false) ⟨fun h => (by cases h), fun h => absurd h (unhide no)⟩, unhide B⟩
    have c4 := (unhide RW).at (o := 4) (v := .slice e.h4.a e.h4.len e.h4.cap) rfl
    go_wp2_with fail
    refine (unhide q4 _ (unhide B)).mono ?_
    rintro r w5 ⟨⟨v, rfl, hv⟩, hb⟩
    replace B := hide (bTr (unhide B) hb)
    have HX := hide hv
    clear hb q4 hv c4
    go_wp2_with fail
    go_ret
    exact ⟨retB (b := v) ((unhide HX).trans ⟨fun h => (unhide D2).2 ⟨(unhide HV).1 (by trivial), (unhide HU).1 (by trivial), h⟩, fun h => ((unhide D2).1 h).2.2⟩), unhide B⟩
set_option maxHeartbeats 1000000 in
theorem notGood_Cl  (P : ClientE → Prop) (b : Nat) (x : ClientE) (w : World) (hc : w.cell? ⟨b, 0, none⟩ = some (.func (.func 18) #[] #[]))
    (q : ∀ w' : World, Below w.heap.size w w' → Calls Try.prog 18 #[.agg #[.string x.t.f0, .slice x.h1.a x.h1.len x.h1.cap, .slice x.h2.a x.h2.len x.h2.cap, .slice x.h3.a x.h3.len x.h3.cap, .slice x.h4.a x.h4.len x.h4.cap]] w' fun e w'' => RetB e (P x) ∧ Below w'.heap.size w' w'') :
    Calls Try.prog 32 #[.agg #[.string x.t.f0, .slice x.h1.a x.h1.len x.h1.cap, .slice x.h2.a x.h2.len x.h2.cap, .slice x.h3.a x.h3.len x.h3.cap, .slice x.h4.a x.h4.len x.h4.cap], .pointer (some ⟨b, 0, none⟩)] w fun e w' => RetB e (¬ P x) ∧ Below w.heap.size w w' := by
  have HB := hide (bAl (Below.refl w.heap.size w) (.cells #[.string x.t.f0, .slice x.h1.a x.h1.len x.h1.cap, .slice x.h2.a x.h2.len x.h2.cap, .slice x.h3.a x.h3.len x.h3.cap, .slice x.h4.a x.h4.len x.h4.cap] 39))
  have zb : b < w.heap.size := World.block_lt_of_cell? w ⟨b, 0, none⟩ hc
  have Q := hide (q _ (unhide HB))
  clear q
  go_enter Try.func32, Try.ntmps32
  go_wp2_with fail
  refine (unhide Q).mono ?_
  rintro e w1 ⟨⟨v, rfl, hv⟩, hb⟩
  have B1 := hide (bTr (unhide HB) hb)
  have HV := hide hv
  clear hb HB Q hc hv
  go_wp2_with fail
  go_ret
  refine ⟨retB (b := !v) ?_, unhide B1⟩
  rw [← unhide HV]; cases v <;> simp
set_option maxHeartbeats 1000000 in
theorem indexBad_Cl  (P : ClientE → Prop) (b : Nat) (h : Hd) (l : List ClientE) (w : World) (hl : l.length ≤ maxLen) (hs : SqClientE w 0 h l) (hc : w.cell? ⟨b, 0, none⟩ = some (.func (.func 18) #[] #[]))
    (q : ∀ x ∈ l, ∀ w' : World, Below w.heap.size w w' → Calls Try.prog 18 #[.agg #[.string x.t.f0, .slice x.h1.a x.h1.len x.h1.cap, .slice x.h2.a x.h2.len x.h2.cap, .slice x.h3.a x.h3.len x.h3.cap, .slice x.h4.a x.h4.len x.h4.cap]] w' fun e w'' => RetB e (P x) ∧ Below w'.heap.size w' w'') :
    Calls Try.prog 48 #[.slice h.a h.len h.cap, .func (.func 32) #[] #[.pointer (some ⟨b, 0, none⟩)]] w fun e w' => (∃ v : Int, e = .returned (.int .i64 v) ∧ (0 ≤ v ↔ ¬ ∀ x ∈ l, P x)) ∧ Below w.heap.size w w' := by
  have HS := hide hs
  have zb : b < w.heap.size := World.block_lt_of_cell? w ⟨b, 0, none⟩ hc
  have HC := hide (fun (w' : World) (h : Below w.heap.size w w') => cellB (w' := w') h zb hc)
  have HQ := hide q
  have HL := hide hs.1
  have hlm : h.len ≤ maxLen := by rw [hs.1]; exact hl
  unfold maxLen at hlm
  obtain ⟨a, len, cap⟩ := h
  simp only at hlm HL
  clear hs hc q hl
  go_enter Try.func48, Try.ntmps48
  go_wp2_with fail
  go_loopw [8] (fun i w' => ∃ k : Nat, k ≤ len ∧ i = .int .i64 k ∧ Hid (Below w.heap.size w w') ∧ Hid (∀ i (h : i < l.length), i < k → P l[i])) (fun i _ => len - (Go.RowKit.intOf i).toNat)
  case atStart => exact ⟨0, Nat.zero_le _, rfl, hide (Below.refl _ _), hide (fun i _ h => absurd h (Nat.not_lt_zero _))⟩
  case round =>
    obtain ⟨k, hk, rfl, hb, hA⟩ := hrel
    by_cases hlt : k < len
    · have hk' : k < l.length := by have := unhide HL; omega
      obtain ⟨bb_, off, e0, hrow⟩ := ((unhide HS).keep (unhide hb)).at hlt
      simp only at e0
      subst e0
      have c0 := hrow.c0 k hk'
      have c1 := hrow.c1 k hk'
      have c2 := hrow.c2 k hk'
      have c3 := hrow.c3 k hk'
      have c4 := hrow.c4 k hk'
      have zk := hrow.z
      have q := hide (notGood_Cl  P b l[k] wr (unhide HC _ (unhide hb)) (fun w' h => unhide HQ _ (List.getElem_mem hk') w' (bTr (unhide hb) h)))
      have eS : Hid (P l[k] → ∀ i (h : i < l.length), i < k + 1 → P l[i]) := hide (fun g i hi h1 => by
        rcases Nat.lt_or_ge i k with h2 | h2
        · exact unhide hA i hi h2
        · obtain rfl : i = k := by omega
          exact g)
      have eN : Hid (¬ P l[k] → ¬ ∀ x ∈ l, P x) := hide (fun g h => g (h _ (List.getElem_mem hk')))
      clear hrow
      generalize l[k] = A at *
      go_wp2_with fail
      refine (unhide q).mono ?_
      rintro e w1 ⟨⟨v, rfl, hv⟩, hb1⟩
      have B1 := hide (bTr (unhide hb) hb1)
      have HV := hide hv
      clear hb1 q hv c0 c1 c2 c3 c4
      cases v
      · have S := hide (unhide eS (Classical.byContradiction fun h => by have := (unhide HV).2 h; cases this))
        clear eS eN HV
        go_wp2_with fail
        exact ⟨⟨k + 1, by omega, by go_num, B1, S⟩, by simp [Go.RowKit.intOf]; omega⟩
      · have N := hide (unhide eN ((unhide HV).1 rfl))
        clear eS eN HV
        go_wp2_with fail
        go_ret
        exact ⟨⟨_, rfl, fun _ => unhide N, fun _ => by omega⟩, unhide B1⟩
    · have S : Hid (∀ x ∈ l, P x) := hide (fun x hx => by
        obtain ⟨i, hi, rfl⟩ := List.getElem_of_mem hx
        exact unhide hA i hi (by have := unhide HL; omega))
      go_wp2_with fail
      go_ret
      exact ⟨⟨_, rfl, fun h => absurd h (by decide), fun h => absurd (unhide S) h⟩, unhide hb⟩
set_option maxHeartbeats 1000000 in
theorem goodList_Cl  (P : ClientE → Prop) (most : Int) (h : Hd) (l : List ClientE) (w : World) (hl : l.length ≤ maxLen) (hs : SqClientE w 0 h l)
    (q : ∀ x ∈ l, ∀ w' : World, Below w.heap.size w w' → Calls Try.prog 18 #[.agg #[.string x.t.f0, .slice x.h1.a x.h1.len x.h1.cap, .slice x.h2.a x.h2.len x.h2.cap, .slice x.h3.a x.h3.len x.h3.cap, .slice x.h4.a x.h4.len x.h4.cap]] w' fun e w'' => RetB e (P x) ∧ Below w'.heap.size w' w'') :
    Calls Try.prog 17 #[.slice h.a h.len h.cap, .int .i64 most, .func (.func 18) #[] #[]] w fun e w' => RetB e ((l.length : Int) ≤ most ∧ ∀ x ∈ l, P x) ∧ Below w.heap.size w w' := by
  have HS := hide hs
  have HQ := hide q
  have HL := hide hs.1
  have HM := hide hl
  clear hs q hl
  by_cases h200 : (h.len : Int) ≤ most
  · obtain ⟨W, hW⟩ : ∃ W, W = w.alloc (.cells #[.func (.func 18) #[] #[]] 46) := ⟨_, rfl⟩
    have R := show RowIs W w.heap.size #[.func (.func 18) #[] #[]] 46 by rw [hW]; exact RowIs.new _ _ _
    have B := hide (show Below w.heap.size w W by rw [hW]; exact bAl (Below.refl _ _) _)
    have HW := hide hW.symm
    clear hW
    have q := hide (fun hc => indexBad_Cl  P w.heap.size h l W (unhide HM) ((unhide HS).keep (unhide B)) hc (fun x hx w' h => unhide HQ x hx w' (bTr (unhide B) h)))
    have q2 : Hid (Calls Try.prog 31 #[.slice h.a h.len h.cap, .func (.func 32) #[] #[.pointer (some ⟨w.heap.size, 0, none⟩)]] W fun e w' => (∃ v : Bool, e = .returned (.bool v) ∧ (v = true ↔ ¬ ∀ x ∈ l, P x)) ∧ Below W.heap.size W w') := hide (by
      have q := hide (unhide q (R.at (o := 0) rfl))
      go_enter Try.func31, Try.ntmps31
      go_wp2_with fail
      refine (unhide q).mono ?_
      rintro e w1 ⟨⟨v, rfl, hv⟩, hb⟩
      have HV := hide hv
      clear hv
      go_wp2_with fail
      go_ret
      exact ⟨⟨decide (0 ≤ v), rfl, by rw [decide_eq_true_iff]; exact unhide HV⟩, hb⟩)
    have hst := @run_store Try.prog
    clear q R
    go_enter Try.func17, Try.ntmps17
    go_wp2_with fail
    rw [unhide HW]
    refine (unhide q2).mono ?_
    rintro e w1 ⟨⟨v, rfl, hv⟩, hb⟩
    have HV := hide hv
    have B1 := hide (bTr (unhide B) hb)
    clear hv hb q2 hst HW B
    go_wp2_with fail
    go_ret
    have hle := unhide HL
    refine ⟨retB (b := !v) ⟨fun h => ?_, fun h => ?_⟩, unhide B1⟩
    · cases v
      · refine ⟨by omega, ?_⟩
        have := unhide HV
        exact Classical.byContradiction fun hn => by have := this.2 hn; cases this
      · cases h
    · cases v
      · rfl
      · exact absurd h.2 ((unhide HV).1 rfl)
  · have d : decide ((h.len : Int) ≤ most) = false := by simpa using h200
    have B := hide (bAl (Below.refl w.heap.size w) (.cells #[.func (.func 18) #[] #[]] 46))
    have hst := @run_store Try.prog
    go_enter Try.func17, Try.ntmps17
    go_wp2_with fail
    go_ret
    have hle := unhide HL
    exact ⟨retB (b := false) ⟨fun h => (by cases h), fun h => absurd h.1 (by omega)⟩, unhide B⟩
set_option maxHeartbeats 400000 in
theorem clName_any (x : ClientE) (w : World) : Calls Try.prog 20 #[.agg #[.string x.t.f0, .slice x.h1.a x.h1.len x.h1.cap, .slice x.h2.a x.h2.len x.h2.cap, .slice x.h3.a x.h3.len x.h3.cap, .slice x.h4.a x.h4.len x.h4.cap]] w fun r w' => r = .returned (.string x.t.f0) ∧ Below w.heap.size w w' := by
  go_enter Try.func20, Try.ntmps20
  go_wp2_with fail
  go_ret
  exact ⟨rfl, bAl (Below.refl _ _) _⟩
set_option maxRecDepth 20000 in
set_option maxHeartbeats 2000000 in
theorem clBy_any (bc : Nat) (P Q : ClientE) (w : World) (hc : w.cell? ⟨bc, 0, none⟩ = some (.func (.func 20) #[] #[])) :
    Calls Try.prog 41 #[.agg #[.string P.t.f0, .slice P.h1.a P.h1.len P.h1.cap, .slice P.h2.a P.h2.len P.h2.cap, .slice P.h3.a P.h3.len P.h3.cap, .slice P.h4.a P.h4.len P.h4.cap], .agg #[.string Q.t.f0, .slice Q.h1.a Q.h1.len Q.h1.cap, .slice Q.h2.a Q.h2.len Q.h2.cap, .slice Q.h3.a Q.h3.len Q.h3.cap, .slice Q.h4.a Q.h4.len Q.h4.cap], .pointer (some ⟨bc, 0, none⟩)] w fun r w' => r = .returned (.int .i64 (cmpT P.t.f0.data.toList Q.t.f0.data.toList)) ∧ Below w.heap.size w w' := by
  have zb : bc < w.heap.size := World.block_lt_of_cell? w ⟨bc, 0, none⟩ hc
  obtain ⟨W, hW⟩ : ∃ W, W = (w.alloc (.cells #[.string P.t.f0, .slice P.h1.a P.h1.len P.h1.cap, .slice P.h2.a P.h2.len P.h2.cap, .slice P.h3.a P.h3.len P.h3.cap, .slice P.h4.a P.h4.len P.h4.cap] 39)).alloc (.cells #[.string Q.t.f0, .slice Q.h1.a Q.h1.len Q.h1.cap, .slice Q.h2.a Q.h2.len Q.h2.cap, .slice Q.h3.a Q.h3.len Q.h3.cap, .slice Q.h4.a Q.h4.len Q.h4.cap] 39) := ⟨_, rfl⟩
  have bW : Below w.heap.size w W := by rw [hW]; exact bAl (bAl (Below.refl _ _) _) _
  have rP : RowIs W w.heap.size #[.string P.t.f0, .slice P.h1.a P.h1.len P.h1.cap, .slice P.h2.a P.h2.len P.h2.cap, .slice P.h3.a P.h3.len P.h3.cap, .slice P.h4.a P.h4.len P.h4.cap] 39 := by rw [hW]; exact (RowIs.new w _ _).keep (bAl (Below.refl _ _) _)
  have rQ : RowIs W (w.heap.size + 1) #[.string Q.t.f0, .slice Q.h1.a Q.h1.len Q.h1.cap, .slice Q.h2.a Q.h2.len Q.h2.cap, .slice Q.h3.a Q.h3.len Q.h3.cap, .slice Q.h4.a Q.h4.len Q.h4.cap] 39 := by rw [hW]; have := RowIs.new (w.alloc (.cells #[.string P.t.f0, .slice P.h1.a P.h1.len P.h1.cap, .slice P.h2.a P.h2.len P.h2.cap, .slice P.h3.a P.h3.len P.h3.cap, .slice P.h4.a P.h4.len P.h4.cap] 39)) #[.string Q.t.f0, .slice Q.h1.a Q.h1.len Q.h1.cap, .slice Q.h2.a Q.h2.len Q.h2.cap, .slice Q.h3.a Q.h3.len Q.h3.cap, .slice Q.h4.a Q.h4.len Q.h4.cap] 39; simpa using this
  have HW := hide hW
  have x0 := kept_cell (W := W) (p := ⟨w.heap.size, 0, none⟩) rP.lt (rP.at (o := 0) (v := .string P.t.f0) rfl)
  have y0 := kept_cell (W := W) (p := ⟨w.heap.size + 1, 0, none⟩) rQ.lt (rQ.at (o := 0) (v := .string Q.t.f0) rfl)
  have x1 := kept_cell (W := W) (p := ⟨w.heap.size, 1, none⟩) rP.lt (rP.at (o := 1) (v := .slice P.h1.a P.h1.len P.h1.cap) rfl)
  have y1 := kept_cell (W := W) (p := ⟨w.heap.size + 1, 1, none⟩) rQ.lt (rQ.at (o := 1) (v := .slice Q.h1.a Q.h1.len Q.h1.cap) rfl)
  have x2 := kept_cell (W := W) (p := ⟨w.heap.size, 2, none⟩) rP.lt (rP.at (o := 2) (v := .slice P.h2.a P.h2.len P.h2.cap) rfl)
  have y2 := kept_cell (W := W) (p := ⟨w.heap.size + 1, 2, none⟩) rQ.lt (rQ.at (o := 2) (v := .slice Q.h2.a Q.h2.len Q.h2.cap) rfl)
  have x3 := kept_cell (W := W) (p := ⟨w.heap.size, 3, none⟩) rP.lt (rP.at (o := 3) (v := .slice P.h3.a P.h3.len P.h3.cap) rfl)
  have y3 := kept_cell (W := W) (p := ⟨w.heap.size + 1, 3, none⟩) rQ.lt (rQ.at (o := 3) (v := .slice Q.h3.a Q.h3.len Q.h3.cap) rfl)
  have x4 := kept_cell (W := W) (p := ⟨w.heap.size, 4, none⟩) rP.lt (rP.at (o := 4) (v := .slice P.h4.a P.h4.len P.h4.cap) rfl)
  have y4 := kept_cell (W := W) (p := ⟨w.heap.size + 1, 4, none⟩) rQ.lt (rQ.at (o := 4) (v := .slice Q.h4.a Q.h4.len Q.h4.cap) rfl)
  have z0 := kept_cell (W := W) (p := ⟨bc, 0, none⟩) (Nat.lt_of_lt_of_le zb bW.size) (cellB bW zb hc)
  have ne : Nonempty (Kept W) := ⟨⟨W, Below.refl _ _⟩⟩
  have qP := hide (fun (q : Kept W) => clName_any P q.w)
  have qQ := hide (fun (q : Kept W) => clName_any Q q.w)
  have qc := hide (fun (q : Kept W) => stringsCompare_any P.t.f0 Q.t.f0 q.w)
  have BW := hide bW
  generalize cmpT P.t.f0.data.toList Q.t.f0.data.toList = cc at qc ⊢
  clear hW hc bW rP rQ zb
  go_enter Try.func41, Try.ntmps41
  go_wp2_with fail
  rw [← unhide HW]
  refine wp_region_kept (by kernel_rfl) (by kernel_rfl) ?_
  repeat (first
    | go_big_quiet_step (first | (go_at_call 20; with_reducible exact kept_call (unhide qP _)) | (go_at_call 20; with_reducible exact kept_call (unhide qQ _)) | (go_at_call 42; exact kept_same (unhide qc _)))
    | quiet_step (first | (go_at_call 20; with_reducible exact kept_call (unhide qP _)) | (go_at_call 20; with_reducible exact kept_call (unhide qQ _)) | (go_at_call 42; exact kept_same (unhide qc _))))
  refine wpQuiet_nil ?_
  rintro _ ⟨q, rfl⟩
  go_wp2_with fail
  go_ret
  exact ⟨rfl, bTr (unhide BW) q.h⟩
set_option maxRecDepth 20000 in
set_option maxHeartbeats 4000000 in
theorem rising_clBy (bc : Nat) (c : ClientE → ClientE → Int) (h : Hd) (l : List ClientE) (w : World) (hl : l.length ≤ maxLen) (hs : SqClientE w 0 h l)
    (qq : ∀ x ∈ l, ∀ y ∈ l, ∀ w' : World, Below w.heap.size w w' → Calls Try.prog 41 #[.agg #[.string x.t.f0, .slice x.h1.a x.h1.len x.h1.cap, .slice x.h2.a x.h2.len x.h2.cap, .slice x.h3.a x.h3.len x.h3.cap, .slice x.h4.a x.h4.len x.h4.cap], .agg #[.string y.t.f0, .slice y.h1.a y.h1.len y.h1.cap, .slice y.h2.a y.h2.len y.h2.cap, .slice y.h3.a y.h3.len y.h3.cap, .slice y.h4.a y.h4.len y.h4.cap], .pointer (some ⟨bc, 0, none⟩)] w' fun e w'' => e = .returned (.int .i64 (c x y)) ∧ Below w'.heap.size w' w'') :
    Calls Try.prog 40 #[.slice h.a h.len h.cap, .func (.func 41) #[] #[.pointer (some ⟨bc, 0, none⟩)]] w fun e w' => RetB e (∀ i (h : i + 1 < l.length), c l[i] l[i + 1] < 0) ∧ Below w.heap.size w w' := by
  have HS := hide hs
  have HQ := hide qq
  have HL := hide hs.1
  have hlm : h.len ≤ maxLen := by rw [hs.1]; exact hl
  unfold maxLen at hlm
  obtain ⟨a, len, cap⟩ := h
  simp only at hlm HL
  clear hs qq hl
  go_enter Try.func40, Try.ntmps40
  go_wp2
  go_loopw [5] (fun i w' => ∃ k : Nat, 1 ≤ k ∧ (k ≤ len ∨ k = 1) ∧ i = .int .i64 k ∧ Hid (Below w.heap.size w w') ∧ Hid (∀ i (h : i + 1 < l.length), i + 1 < k → c l[i] l[i + 1] < 0)) (fun i _ => len - (Go.RowKit.intOf i).toNat)
  case atStart => exact ⟨1, Nat.le_refl _, .inr rfl, rfl, hide (Below.refl _ _), hide (fun i _ h => absurd h (by omega))⟩
  case round =>
    obtain ⟨k, hk1, hk, rfl, hb, hris⟩ := hrel
    by_cases hlt : k < len
    · obtain ⟨j, rfl⟩ : ∃ j, k = j + 1 := ⟨k - 1, by omega⟩
      have hk' : j + 1 < l.length := by have := unhide HL; omega
      have hj : j < l.length := by omega
      obtain ⟨bb_, off, e0, hrow⟩ := ((unhide HS).keep (unhide hb)).at hlt
      simp only at e0
      subst e0
      have p0 := hrow.c0 (j + 1) hk'
      have p1 := hrow.c1 (j + 1) hk'
      have p2 := hrow.c2 (j + 1) hk'
      have p3 := hrow.c3 (j + 1) hk'
      have p4 := hrow.c4 (j + 1) hk'
      have o0 := hrow.c0 j hj
      have o1 := hrow.c1 j hj
      have o2 := hrow.c2 j hj
      have o3 := hrow.c3 j hj
      have o4 := hrow.c4 j hj
      have zk := hrow.z
      have qc := hide (fun (q : Kept wr) => unhide HQ l[j] (List.getElem_mem hj) l[j + 1] (List.getElem_mem hk') q.w (bTr (unhide hb) q.h))
      have stepR : Hid (c l[j] l[j + 1] < 0 → ∀ i (h : i + 1 < l.length), i + 1 < j + 1 + 1 → c l[i] l[i + 1] < 0) := hide (fun g i hi h1 => by
        rcases Nat.lt_or_ge i j with h2 | h2
        · exact unhide hris i hi (by omega)
        · obtain rfl : i = j := by omega
          exact g)
      have noR : Hid (¬ c l[j] l[j + 1] < 0 → ¬ ∀ i (h : i + 1 < l.length), c l[i] l[i + 1] < 0) := hide (fun g h => g (h j hk'))
      clear hrow hris
      generalize c l[j] l[j + 1] = cc at qc stepR noR
      generalize l[j + 1] = P at p0 p1 p2 p3 p4 qc
      generalize l[j] = Q at o0 o1 o2 o3 o4 qc
      have ne : Nonempty (Kept wr) := ⟨⟨wr, Below.refl _ _⟩⟩
      have x0 := kept_cell zk p0
      have y0 := kept_cell zk o0
      have x1 := kept_cell zk p1
      have y1 := kept_cell zk o1
      have x2 := kept_cell zk p2
      have y2 := kept_cell zk o2
      have x3 := kept_cell zk p3
      have y3 := kept_cell zk o3
      have x4 := kept_cell zk p4
      have y4 := kept_cell zk o4
      have ej : IntKind.i64.wrap ((j : Int) + 1 - 1) = (j : Int) := by rw [IntKind.wrap_i64]; omega
      have i0 : (0 : Int) ≤ (j : Int) := by omega
      have i1 : (j : Int) < (len : Int) := by omega
      have i2 : (j : Int) + 1 < (len : Int) := by omega
      clear p0 o0 p1 o1 p2 o2 p3 o3 p4 o4 zk
      by_cases hc : cc < 0
      · have dc : decide (0 ≤ cc) = false := by simp; omega
        replace stepR := hide (unhide stepR hc)
        clear hc noR
        go_wp2_with fail
        refine wp_region_kept (by kernel_rfl) (by kernel_rfl) ?_
        repeat (first
          | go_big_quiet_step ((go_at_call 41; exact kept_call (unhide qc _)))
          | quiet_step ((go_at_call 41; exact kept_call (unhide qc _))))
        refine wpQuiet_nil ?_
        rintro _ ⟨q, rfl⟩
        go_wp2_with fail
        exact ⟨⟨j + 1 + 1, by omega, by omega, by go_num, hide (bTr (unhide hb) q.h), stepR⟩, by simp [Go.RowKit.intOf]; omega⟩
      · have dc : decide (0 ≤ cc) = true := by simp; omega
        replace noR := hide (unhide noR hc)
        clear hc stepR
        go_wp2_with fail
        refine wp_region_kept (by kernel_rfl) (by kernel_rfl) ?_
        repeat (first
          | go_big_quiet_step ((go_at_call 41; exact kept_call (unhide qc _)))
          | quiet_step ((go_at_call 41; exact kept_call (unhide qc _))))
        refine wpQuiet_nil ?_
        rintro _ ⟨q, rfl⟩
        go_wp2_with fail
        go_ret
        exact ⟨retB (b := false) ⟨fun h => (by cases h), fun h => absurd h (unhide noR)⟩, bTr (unhide hb) q.h⟩
    · have hR : Hid (∀ i (h : i + 1 < l.length), c l[i] l[i + 1] < 0) := hide (fun i h => unhide hris i h (by have := unhide HL; omega))
      clear hris
      go_wp2_with fail
      go_ret
      exact ⟨retB (b := true) ⟨fun _ => unhide hR, fun _ => rfl⟩, unhide hb⟩
set_option maxHeartbeats 1000000 in
theorem byName_cl (h : Hd) (l : List ClientE) (w : World) (hl : l.length ≤ maxLen) (hs : SqClientE w 0 h l) :
    Calls Try.prog 19 #[.slice h.a h.len h.cap, .func (.func 20) #[] #[]] w fun e w' => RetB e (∀ i (h : i + 1 < l.length), cmpT l[i].t.f0.data.toList l[i + 1].t.f0.data.toList < 0) ∧ Below w.heap.size w w' := by
  obtain ⟨W, hW⟩ : ∃ W, W = w.alloc (.cells #[.func (.func 20) #[] #[]] 49) := ⟨_, rfl⟩
  have bW : Below w.heap.size w W := by rw [hW]; exact bAl (Below.refl _ _) _
  have rW : RowIs W w.heap.size #[.func (.func 20) #[] #[]] 49 := by rw [hW]; exact RowIs.new w _ _
  have q := hide (rising_clBy w.heap.size (fun x y => cmpT x.t.f0.data.toList y.t.f0.data.toList) h l W hl (hs.keep bW) (fun x _ y _ w' hb => clBy_any w.heap.size x y w' ((rW.keep hb).at rfl)))
  have HW := hide hW.symm
  have B := hide bW
  clear hW hs hl bW rW
  go_enter Try.func19, Try.ntmps19
  go_wp2_with fail
  rw [unhide HW]
  refine (unhide q).mono ?_
  rintro e w1 ⟨⟨v, rfl, hv⟩, hb⟩
  have HV := hide hv
  have B1 := hide (bTr (unhide B) hb)
  clear hv hb q HW B
  go_wp2_with fail
  go_ret
  exact ⟨retB (b := v) (unhide HV), unhide B1⟩
set_option maxHeartbeats 4000000 in
theorem iGoodServer_n (e : ServerE) (w : World) (hn : ServerN e.t) (hm : ServerM w 0 e) :
    Calls Try.prog 7 #[.agg #[.slice e.h0.a e.h0.len e.h0.cap, .slice e.h1.a e.h1.len e.h1.cap, .int .i64 e.t.f2, .int .i64 e.t.f3]] w fun r w' => RetB r (GSv e.t) ∧ Below w.heap.size w w' := by
  obtain ⟨l, hl, hs⟩ := hm.m0
  have ll : l.length = e.t.f0.length := by rw [← hl]; simp
  have hlm : l.length ≤ maxLen := by rw [ll]; exact hn.l0
  have hne : ∀ x ∈ l, ClientN x.t := fun x hx => hn.o0 _ (by rw [← hl]; exact List.mem_map_of_mem hx)
  have q1 := hide (fun (w' : World) (hb : Below w.heap.size w w') => goodList_Cl (fun x => GCl x.t) 20 e.h0 l w' hlm (hs.keep hb) (fun x hx w'' hb2 => isGood_n x w'' (hne x hx) ((hs.2.2 x hx).keep (bTr hb hb2))))
  have q2 := hide (fun (w' : World) (hb : Below w.heap.size w w') => byName_cl e.h0 l w' hlm (hs.keep hb))
  have qs := hide (fun w => between_any 1 e.t.f2 1000000 w)
  have ql := hide (fun w => between_any 1 e.t.f3 1000000 w)
  have D : Hid (GSv e.t ↔ (((l.length : Int) ≤ 20 ∧ ∀ x ∈ l, GCl x.t) ∧ (∀ i (h : i + 1 < l.length), cmpT l[i].t.f0.data.toList l[i + 1].t.f0.data.toList < 0) ∧ (e.h1.len : Int) ≤ 64 ∧ (1 ≤ e.t.f2 ∧ e.t.f2 ≤ 1000000) ∧ (1 ≤ e.t.f3 ∧ e.t.f3 ≤ 1000000))) := hide (by
    have e1 := hm.m1.1
    constructor
    · rintro ⟨a, b, c, d, f, g⟩
      refine ⟨⟨by omega, fun x hx => b _ (by rw [← hl]; exact List.mem_map_of_mem hx)⟩, fun i h => ?_, by omega, f, g⟩
      have := c i (by omega)
      simp only [← hl, List.getElem_map] at this
      exact this
    · rintro ⟨⟨a, b⟩, c, d, f, g⟩
      refine ⟨by omega, fun x hx => ?_, fun i h => ?_, by omega, f, g⟩
      · rw [← hl] at hx
        obtain ⟨y, hy, rfl⟩ := List.mem_map.1 hx
        exact b y hy
      · have := c i (by omega)
        simp only [← hl, List.getElem_map]
        exact this)
  generalize GSv e.t = G at D ⊢
  generalize ((l.length : Int) ≤ 20 ∧ ∀ x ∈ l, GCl x.t) = P1 at D q1
  generalize (∀ i (h : i + 1 < l.length), cmpT l[i].t.f0.data.toList l[i + 1].t.f0.data.toList < 0) = P2 at D q2
  obtain ⟨W, hW⟩ : ∃ W, W = w.alloc (.cells #[.slice e.h0.a e.h0.len e.h0.cap, .slice e.h1.a e.h1.len e.h1.cap, .int .i64 e.t.f2, .int .i64 e.t.f3] 30) := ⟨_, rfl⟩
  have B := hide (show Below w.heap.size w W by rw [hW]; exact bAl (Below.refl _ _) _)
  have RW := hide (show RowIs W w.heap.size #[.slice e.h0.a e.h0.len e.h0.cap, .slice e.h1.a e.h1.len e.h1.cap, .int .i64 e.t.f2, .int .i64 e.t.f3] 30 by rw [hW]; exact RowIs.new _ _ _)
  have HW := hide hW.symm
  clear hW hn hm hs hl ll hlm hne
  go_enter Try.func7, Try.ntmps7
  go_wp2_with fail
  rw [unhide HW]
  clear HW
  refine (unhide q1 _ (unhide B)).mono ?_
  rintro r w1 ⟨⟨v, rfl, hv⟩, hb⟩
  replace B := hide (bTr (unhide B) hb)
  replace RW := hide ((unhide RW).keep hb)
  have H1 := hide hv
  clear hb q1 hv
  cases v
  case false =>
    have no : Hid (¬ G) := hide (fun g => by have := (unhide H1).2 ((unhide D).1 g).1; cases this)
    clear D q2 qs ql H1
    go_wp2_with fail
    go_ret
    exact ⟨retB (b := false) ⟨fun h => (by cases h), fun h => absurd h (unhide no)⟩, unhide B⟩
  have c0 := (unhide RW).at (o := 0) (v := .slice e.h0.a e.h0.len e.h0.cap) rfl
  go_wp2_with fail
  refine (unhide q2 _ (unhide B)).mono ?_
  rintro r w2 ⟨⟨v, rfl, hv⟩, hb⟩
  replace B := hide (bTr (unhide B) hb)
  replace RW := hide ((unhide RW).keep hb)
  have H2 := hide hv
  clear hb q2 hv c0
  cases v
  case false =>
    have no : Hid (¬ G) := hide (fun g => by have := (unhide H2).2 ((unhide D).1 g).2.1; cases this)
    clear D qs ql H1 H2
    go_wp2_with fail
    go_ret
    exact ⟨retB (b := false) ⟨fun h => (by cases h), fun h => absurd h (unhide no)⟩, unhide B⟩
  have D2 : Hid (G ↔ ((e.h1.len : Int) ≤ 64 ∧ (1 ≤ e.t.f2 ∧ e.t.f2 ≤ 1000000) ∧ (1 ≤ e.t.f3 ∧ e.t.f3 ≤ 1000000))) := hide ((unhide D).trans ⟨fun h => h.2.2, fun h => ⟨(unhide H1).1 (by trivial), (unhide H2).1 (by trivial), h⟩⟩)
  clear D H1 H2
  have c1 := (unhide RW).at (o := 1) (v := .slice e.h1.a e.h1.len e.h1.cap) rfl
  have c2 := (unhide RW).at (o := 2) (v := .int .i64 e.t.f2) rfl
  have c3 := (unhide RW).at (o := 3) (v := .int .i64 e.t.f3) rfl
  by_cases h64 : (e.h1.len : Int) ≤ 64
  case neg =>
    have no : Hid (¬ G) := hide (fun g => h64 ((unhide D2).1 g).1)
    have d0 : decide ((e.h1.len : Int) ≤ 64) = false := decide_eq_false h64
    clear D2 qs ql h64
    go_wp2_with fail
    go_ret
    exact ⟨retB (b := false) ⟨fun h => (by cases h), fun h => absurd h (unhide no)⟩, unhide B⟩
  have d0 : decide ((e.h1.len : Int) ≤ 64) = true := decide_eq_true h64
  have D3 : Hid (G ↔ ((1 ≤ e.t.f2 ∧ e.t.f2 ≤ 1000000) ∧ (1 ≤ e.t.f3 ∧ e.t.f3 ≤ 1000000))) := hide ((unhide D2).trans ⟨fun h => h.2, fun h => ⟨h64, h⟩⟩)
  clear D2 h64
  by_cases hs : 1 ≤ e.t.f2 ∧ e.t.f2 ≤ 1000000
  case neg =>
    have no : Hid (¬ G) := hide (fun g => hs ((unhide D3).1 g).1)
    have d1 : decide (1 ≤ e.t.f2 ∧ e.t.f2 ≤ 1000000) = false := decide_eq_false hs
    rw [d1] at qs
    clear D3 ql hs
    go_wp2_with (go_at_call 21; refine (unhide qs _).mono ?_; rintro r w' ⟨rfl, rfl⟩)
    go_ret
    exact ⟨retB (b := false) ⟨fun h => (by cases h), fun h => absurd h (unhide no)⟩, unhide B⟩
  have d1 : decide (1 ≤ e.t.f2 ∧ e.t.f2 ≤ 1000000) = true := decide_eq_true hs
  rw [d1] at qs
  have D4 : Hid (G ↔ (1 ≤ e.t.f3 ∧ e.t.f3 ≤ 1000000)) := hide ((unhide D3).trans ⟨fun h => h.2, fun h => ⟨hs, h⟩⟩)
  clear D3 hs
  go_wp2_with (first | (go_at_call 21; with_reducible refine (unhide qs _).mono ?_; rintro r w' ⟨rfl, rfl⟩) | (go_at_call 21; with_reducible refine (unhide ql _).mono ?_; rintro r w' ⟨rfl, rfl⟩))
  go_ret
  exact ⟨retB (by rw [unhide D4]; simp), unhide B⟩
end Go.Proofs.Ytflabaknembioaa.V
