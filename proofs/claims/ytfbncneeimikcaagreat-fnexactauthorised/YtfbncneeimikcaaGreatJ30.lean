/- OSm, OSd, one behind the other. -/
import Derived.Test.YtfbncneeimikcaaGreatJ29
import Derived.Test.YtfbncneeimikcaaGreatJ25
import Derived.Test.YtfbncneeimikcaaGreatJ26
import Derived.BigQuiet
/- spec.l15Small, (impl.RoleState).isAsSaid. -/
namespace Go.Proofs.YtfbncneeimikcaaGreat.V
set_option linter.unusedSimpArgs false
set_option linter.unusedVariables false
open Go.RowKit Go.Maps

/-- How many roles and glass grants the sessions have. -/
def sesN : List RoleSessionT → Nat
  | [] => 0
  | x :: r => x.f2.length + x.f3.length + sesN r
theorem sesN_app : ∀ (l m : List RoleSessionT), sesN (l ++ m) = sesN l + sesN m
  | [], m => by simp [sesN]
  | x :: l, m => by simp [sesN, sesN_app l m]; omega
theorem sesN_step {l : List RoleSessionT} {k : Nat} (hk : k < l.length) : sesN (l.take (k + 1)) = sesN (l.take k) + (l[k].f2.length + l[k].f3.length) := by
  rw [List.take_succ_eq_append_getElem hk, sesN_app]; simp [sesN]
/-- A state that is not too big, and whose grants have good Depths. -/
def GSt (g : List RoleGrantT) (x : List RoleSessionT) : Prop := g.length + x.length + sesN x ≤ 300 ∧ DepOk g
theorem hasDepth_n (x : RoleGrantE) (w : World) : Calls Tryz.prog 89 #[.agg #[.string x.t.f0, .string x.t.f1, .string x.t.f2, .int .i64 x.t.f3, .int .i64 x.t.f4, .int .i64 x.t.f5]] w fun r w' => RetB r (0 ≤ x.t.f4 ∧ x.t.f4 ≤ 2) ∧ Below w.heap.size w w' := by
  obtain ⟨⟨f0, f1, f2, f3, f4, f5⟩⟩ := x
  simp only
  have B := hide (bAl (Below.refl w.heap.size w) (.cells #[.string f0, .string f1, .string f2, .int .i64 f3, .int .i64 f4, .int .i64 f5] 112))
  by_cases h0 : 0 ≤ f4
  · have d0 : decide (0 ≤ f4) = true := decide_eq_true h0
    by_cases h1 : f4 ≤ 2
    · have d1 : decide (f4 ≤ 2) = true := decide_eq_true h1
      have yes := hide (And.intro h0 h1)
      clear h0 h1
      go_enter Tryz.func89, Tryz.ntmps89
      go_wp2_with fail
      go_ret
      exact ⟨retB (b := true) ⟨fun _ => unhide yes, fun _ => rfl⟩, unhide B⟩
    · have d1 : decide (f4 ≤ 2) = false := decide_eq_false h1
      have no : Hid (¬ (0 ≤ f4 ∧ f4 ≤ 2)) := hide (fun h => h1 h.2)
      clear h0 h1
      go_enter Tryz.func89, Tryz.ntmps89
      go_wp2_with fail
      go_ret
      exact ⟨retB (b := false) ⟨fun h => (by cases h), fun h => absurd h (unhide no)⟩, unhide B⟩
  · have d0 : decide (0 ≤ f4) = false := decide_eq_false h0
    have no : Hid (¬ (0 ≤ f4 ∧ f4 ≤ 2)) := hide (fun h => h0 h.1)
    clear h0
    go_enter Tryz.func89, Tryz.ntmps89
    go_wp2_with fail
    go_ret
    exact ⟨retB (b := false) ⟨fun h => (by cases h), fun h => absurd h (unhide no)⟩, unhide B⟩
set_option maxHeartbeats 1000000 in
theorem notGood_dep  (P : RoleGrantE → Prop) (b : Nat) (x : RoleGrantE) (w : World) (hc : w.cell? ⟨b, 0, none⟩ = some (.func (.func 89) #[] #[]))
    (q : ∀ w' : World, Below w.heap.size w w' → Calls Tryz.prog 89 #[.agg #[.string x.t.f0, .string x.t.f1, .string x.t.f2, .int .i64 x.t.f3, .int .i64 x.t.f4, .int .i64 x.t.f5]] w' fun e w'' => RetB e (P x) ∧ Below w'.heap.size w' w'') :
    Calls Tryz.prog 125 #[.agg #[.string x.t.f0, .string x.t.f1, .string x.t.f2, .int .i64 x.t.f3, .int .i64 x.t.f4, .int .i64 x.t.f5], .pointer (some ⟨b, 0, none⟩)] w fun e w' => RetB e (¬ P x) ∧ Below w.heap.size w w' := by
  have HB := hide (bAl (Below.refl w.heap.size w) (.cells #[.string x.t.f0, .string x.t.f1, .string x.t.f2, .int .i64 x.t.f3, .int .i64 x.t.f4, .int .i64 x.t.f5] 112))
  have zb : b < w.heap.size := World.block_lt_of_cell? w ⟨b, 0, none⟩ hc
  have Q := hide (q _ (unhide HB))
  clear q
  go_enter Tryz.func125, Tryz.ntmps125
  go_wp2_with fail
  refine (unhide Q).mono ?_
  rintro e w1 ⟨⟨v, rfl, hv⟩, hb⟩
  have B1 := hide (bTr (unhide HB) hb)
  have HV := hide hv
  clear hb HB Q hc hv
  go_wp2_with fail
  go_ret
  refine ⟨retB (b := !v) ?_, unhide B1⟩
  rw [← unhide HV]; cases v <;> simp
set_option maxHeartbeats 1000000 in
theorem indexBad_dep  (P : RoleGrantE → Prop) (b : Nat) (h : Hd) (l : List RoleGrantE) (w : World) (hl : l.length ≤ maxLen) (hs : SqRoleGrantE w 0 h l) (hc : w.cell? ⟨b, 0, none⟩ = some (.func (.func 89) #[] #[]))
    (q : ∀ x ∈ l, ∀ w' : World, Below w.heap.size w w' → Calls Tryz.prog 89 #[.agg #[.string x.t.f0, .string x.t.f1, .string x.t.f2, .int .i64 x.t.f3, .int .i64 x.t.f4, .int .i64 x.t.f5]] w' fun e w'' => RetB e (P x) ∧ Below w'.heap.size w' w'') :
    Calls Tryz.prog 141 #[.slice h.a h.len h.cap, .func (.func 125) #[] #[.pointer (some ⟨b, 0, none⟩)]] w fun e w' => (∃ v : Int, e = .returned (.int .i64 v) ∧ (0 ≤ v ↔ ¬ ∀ x ∈ l, P x)) ∧ Below w.heap.size w w' := by
  have HS := hide hs
  have zb : b < w.heap.size := World.block_lt_of_cell? w ⟨b, 0, none⟩ hc
  have HC := hide (fun (w' : World) (h : Below w.heap.size w w') => cellB (w' := w') h zb hc)
  have HQ := hide q
  have HL := hide hs.1
  have hlm : h.len ≤ maxLen := by rw [hs.1]; exact hl
  unfold maxLen at hlm
  obtain ⟨a, len, cap⟩ := h
  simp only at hlm HL
  clear hs hc q hl
  go_enter Tryz.func141, Tryz.ntmps141
  go_wp2_with fail
  go_loopw [8] (fun i w' => ∃ k : Nat, k ≤ len ∧ i = .int .i64 k ∧ Hid (Below w.heap.size w w') ∧ Hid (∀ i (h : i < l.length), i < k → P l[i])) (fun i _ => len - (Go.RowKit.intOf i).toNat)
  case atStart => exact ⟨0, Nat.zero_le _, rfl, hide (Below.refl _ _), hide (fun i _ h => absurd h (Nat.not_lt_zero _))⟩
  case round =>
    obtain ⟨k, hk, rfl, hb, hA⟩ := hrel
    by_cases hlt : k < len
    · have hk' : k < l.length := by have := unhide HL; omega
      obtain ⟨bb_, off, e0, hrow⟩ := ((unhide HS).keep (unhide hb)).at hlt
      simp only at e0
      subst e0
      have c0 := hrow.c0 k hk'
      have c1 := hrow.c1 k hk'
      have c2 := hrow.c2 k hk'
      have c3 := hrow.c3 k hk'
      have c4 := hrow.c4 k hk'
      have c5 := hrow.c5 k hk'
      have zk := hrow.z
      have q := hide (notGood_dep  P b l[k] wr (unhide HC _ (unhide hb)) (fun w' h => unhide HQ _ (List.getElem_mem hk') w' (bTr (unhide hb) h)))
      have eS : Hid (P l[k] → ∀ i (h : i < l.length), i < k + 1 → P l[i]) := hide (fun g i hi h1 => by
        rcases Nat.lt_or_ge i k with h2 | h2
        · exact unhide hA i hi h2
        · obtain rfl : i = k := by omega
          exact g)
      have eN : Hid (¬ P l[k] → ¬ ∀ x ∈ l, P x) := hide (fun g h => g (h _ (List.getElem_mem hk')))
      clear hrow
      generalize l[k] = A at *
      go_wp2_with fail
      refine (unhide q).mono ?_
      rintro e w1 ⟨⟨v, rfl, hv⟩, hb1⟩
      have B1 := hide (bTr (unhide hb) hb1)
      have HV := hide hv
      clear hb1 q hv c0 c1 c2 c3 c4 c5
      cases v
      · have S := hide (unhide eS (Classical.byContradiction fun h => by have := (unhide HV).2 h; cases this))
        clear eS eN HV
        go_wp2_with fail
        exact ⟨⟨k + 1, by omega, by go_num, B1, S⟩, by simp [Go.RowKit.intOf]; omega⟩
      · have N := hide (unhide eN ((unhide HV).1 rfl))
        clear eS eN HV
        go_wp2_with fail
        go_ret
        exact ⟨⟨_, rfl, fun _ => unhide N, fun _ => by omega⟩, unhide B1⟩
    · have S : Hid (∀ x ∈ l, P x) := hide (fun x hx => by
        obtain ⟨i, hi, rfl⟩ := List.getElem_of_mem hx
        exact unhide hA i hi (by have := unhide HL; omega))
      go_wp2_with fail
      go_ret
      exact ⟨⟨_, rfl, fun h => absurd h (by decide), fun h => absurd (unhide S) h⟩, unhide hb⟩
set_option maxHeartbeats 1000000 in
theorem goodList_dep  (P : RoleGrantE → Prop) (most : Int) (h : Hd) (l : List RoleGrantE) (w : World) (hl : l.length ≤ maxLen) (hs : SqRoleGrantE w 0 h l)
    (q : ∀ x ∈ l, ∀ w' : World, Below w.heap.size w w' → Calls Tryz.prog 89 #[.agg #[.string x.t.f0, .string x.t.f1, .string x.t.f2, .int .i64 x.t.f3, .int .i64 x.t.f4, .int .i64 x.t.f5]] w' fun e w'' => RetB e (P x) ∧ Below w'.heap.size w' w'') :
    Calls Tryz.prog 113 #[.slice h.a h.len h.cap, .int .i64 most, .func (.func 89) #[] #[]] w fun e w' => RetB e ((l.length : Int) ≤ most ∧ ∀ x ∈ l, P x) ∧ Below w.heap.size w w' := by
  have HS := hide hs
  have HQ := hide q
  have HL := hide hs.1
  have HM := hide hl
  clear hs q hl
  by_cases h200 : (h.len : Int) ≤ most
  · obtain ⟨W, hW⟩ : ∃ W, W = w.alloc (.cells #[.func (.func 89) #[] #[]] 146) := ⟨_, rfl⟩
    have R := show RowIs W w.heap.size #[.func (.func 89) #[] #[]] 146 by rw [hW]; exact RowIs.new _ _ _
    have B := hide (show Below w.heap.size w W by rw [hW]; exact bAl (Below.refl _ _) _)
    have HW := hide hW.symm
    clear hW
    have q := hide (fun hc => indexBad_dep  P w.heap.size h l W (unhide HM) ((unhide HS).keep (unhide B)) hc (fun x hx w' h => unhide HQ x hx w' (bTr (unhide B) h)))
    have q2 : Hid (Calls Tryz.prog 124 #[.slice h.a h.len h.cap, .func (.func 125) #[] #[.pointer (some ⟨w.heap.size, 0, none⟩)]] W fun e w' => (∃ v : Bool, e = .returned (.bool v) ∧ (v = true ↔ ¬ ∀ x ∈ l, P x)) ∧ Below W.heap.size W w') := hide (by
      have q := hide (unhide q (R.at (o := 0) rfl))
      go_enter Tryz.func124, Tryz.ntmps124
      go_wp2_with fail
      refine (unhide q).mono ?_
      rintro e w1 ⟨⟨v, rfl, hv⟩, hb⟩
      have HV := hide hv
      clear hv
      go_wp2_with fail
      go_ret
      exact ⟨⟨decide (0 ≤ v), rfl, by rw [decide_eq_true_iff]; exact unhide HV⟩, hb⟩)
    have hst := @run_store Tryz.prog
    clear q R
    go_enter Tryz.func113, Tryz.ntmps113
    go_wp2_with fail
    rw [unhide HW]
    refine (unhide q2).mono ?_
    rintro e w1 ⟨⟨v, rfl, hv⟩, hb⟩
    have HV := hide hv
    have B1 := hide (bTr (unhide B) hb)
    clear hv hb q2 hst HW B
    go_wp2_with fail
    go_ret
    have hle := unhide HL
    refine ⟨retB (b := !v) ⟨fun h => ?_, fun h => ?_⟩, unhide B1⟩
    · cases v
      · refine ⟨by omega, ?_⟩
        have := unhide HV
        exact Classical.byContradiction fun hn => by have := this.2 hn; cases this
      · cases h
    · cases v
      · rfl
      · exact absurd h.2 ((unhide HV).1 rfl)
  · have d : decide ((h.len : Int) ≤ most) = false := by simpa using h200
    have B := hide (bAl (Below.refl w.heap.size w) (.cells #[.func (.func 89) #[] #[]] 146))
    have hst := @run_store Tryz.prog
    go_enter Tryz.func113, Tryz.ntmps113
    go_wp2_with fail
    go_ret
    have hle := unhide HL
    exact ⟨retB (b := false) ⟨fun h => (by cases h), fun h => absurd h.1 (by omega)⟩, unhide B⟩
set_option maxHeartbeats 400000 in
theorem every_dep  (P : RoleGrantE → Prop) (h : Hd) (l : List RoleGrantE) (w : World) (hl : l.length ≤ maxLen) (hs : SqRoleGrantE w 0 h l)
    (q : ∀ x ∈ l, ∀ w' : World, Below w.heap.size w w' → Calls Tryz.prog 89 #[.agg #[.string x.t.f0, .string x.t.f1, .string x.t.f2, .int .i64 x.t.f3, .int .i64 x.t.f4, .int .i64 x.t.f5]] w' fun e w'' => RetB e (P x) ∧ Below w'.heap.size w' w'') :
    Calls Tryz.prog 90 #[.slice h.a h.len h.cap, .func (.func 89) #[] #[]] w fun e w' => RetB e (∀ x ∈ l, P x) ∧ Below w.heap.size w w' := by
  have Q := hide (goodList_dep  P h.len h l w hl hs q)
  have HL := hide hs.1
  clear hs q hl
  go_enter Tryz.func90, Tryz.ntmps90
  go_wp2_with fail
  refine (unhide Q).mono ?_
  rintro e w1 ⟨⟨v, rfl, hv⟩, hb⟩
  have HV := hide hv
  clear hv Q
  go_wp2_with fail
  go_ret
  exact ⟨retB (b := v) ((unhide HV).trans ⟨fun h => h.2, fun h => ⟨by have := unhide HL; omega, h⟩⟩), hb⟩
set_option maxRecDepth 40000 in
set_option maxHeartbeats 8000000 in
theorem l15Small_n (h0 : Hd) (a1 : Option Addr) (n1 k1 : Nat) (a2 : Option Addr) (n2 k2 : Nat) (f3 : Int) (gl : List RoleGrantE) (sl : List RoleSessionE) (w : World) (hlg : gl.length ≤ 1048576) (hls : sl.length ≤ 1048576) (hsm : ∀ e ∈ sl, RoleSessionSm e.t) (hg : SqRoleGrantE w 0 ⟨a1, n1, k1⟩ gl) (hs : SqRoleSessionE w 0 ⟨a2, n2, k2⟩ sl) :
    Calls Tryz.prog 24 #[.agg #[.slice h0.a h0.len h0.cap, .slice a1 n1 k1, .slice a2 n2 k2, .int .i64 f3]] w fun e w' => RetB e (GSt (gl.map (·.t)) (sl.map (·.t))) ∧ Below w.heap.size w w' := by
  have HG := hide hg
  have HS := hide hs
  have HM := hide hsm
  have L1 := hide hg.1
  have L2 := hide hs.1
  simp only at L1 L2
  have N1 : n1 ≤ 1048576 := by have := unhide L1; omega
  have N2 : n2 ≤ 1048576 := by have := unhide L2; omega
  have DG : Hid (GSt (gl.map (·.t)) (sl.map (·.t)) ↔ ((n1 : Int) + (n2 : Int) + (sesN (sl.map (·.t)) : Int) ≤ 300 ∧ ∀ e ∈ gl, 0 ≤ e.t.f4 ∧ e.t.f4 ≤ 2)) := hide (by
    unfold GSt DepOk
    have e1 := unhide L1
    have e2 := unhide L2
    simp only [List.length_map, ← e1, ← e2]
    refine and_congr (by omega) ⟨fun h e he => h _ (List.mem_map_of_mem he), fun h g hg => ?_⟩
    obtain ⟨e, he, rfl⟩ := List.mem_map.1 hg
    exact h e he)
  generalize GSt (gl.map (·.t)) (sl.map (·.t)) = G at DG ⊢
  have R0 := hide (RowIs.new w #[.slice h0.a h0.len h0.cap, .slice a1 n1 k1, .slice a2 n2 k2, .int .i64 f3] 43)
  have B0 := hide (bAl (Below.refl w.heap.size w) (.cells #[.slice h0.a h0.len h0.cap, .slice a1 n1 k1, .slice a2 n2 k2, .int .i64 f3] 43))
  clear hg hs hsm hlg hls
  go_enter Tryz.func24, Tryz.ntmps24
  go_wp2_with fail
  go_loopw [3, 18] (fun n i w' => ∃ (k S : Nat), k ≤ n2 ∧ i = .int .i64 k ∧ S ≤ k * 2097152 ∧ n = .int .i64 ((n1 : Int) + (n2 : Int) + (S : Int)) ∧ Hid (S = sesN ((sl.map (·.t)).take k)) ∧ Hid (RowIs w' w.heap.size #[.slice h0.a h0.len h0.cap, .slice a1 n1 k1, .slice a2 n2 k2, .int .i64 f3] 43) ∧ Hid (Below w.heap.size w w')) (fun _ i _ => n2 - (Go.RowKit.intOf i).toNat)
  case atStart => exact ⟨0, 0, Nat.zero_le _, rfl, by omega, by simp, hide (by simp [sesN]), R0, B0⟩
  case round =>
    clear R0 B0
    obtain ⟨k, S, hk, rfl, hS, rfl, ES, R, B⟩ := hrel
    by_cases hlt : k < n2
    case pos =>
      have hk' : k < sl.length := by have := unhide L2; omega
      obtain ⟨b, off, e0, hrow⟩ := ((unhide HS).keep (unhide B)).at hlt
      simp only at e0
      subst e0
      have c0 := hrow.c0 k hk'
      have c1 := hrow.c1 k hk'
      have c2 := hrow.c2 k hk'
      have c3 := hrow.c3 k hk'
      have c4 := hrow.c4 k hk'
      have z2 : sl[k].h2.len = sl[k].t.f2.length := ((unhide HS).2.2 _ (List.getElem_mem hk')).m2.1
      have z3 : sl[k].h3.len = sl[k].t.f3.length := ((unhide HS).2.2 _ (List.getElem_mem hk')).m3.len
      have y2 := (unhide HM _ (List.getElem_mem hk')).l2
      have y3 := (unhide HM _ (List.getElem_mem hk')).l3
      have ES2 := hide (show S + (sl[k].h2.len + sl[k].h3.len) = sesN ((sl.map (·.t)).take (k + 1)) by
        rw [sesN_step (by simpa using hk'), ← unhide ES, z2, z3]; simp)
      rw [← z2] at y2
      rw [← z3] at y3
      have R2 := hide ((unhide R).keep (bAl (Below.refl wr.heap.size wr) (.cells #[.string sl[k].t.f0, .string sl[k].t.f1, .slice sl[k].h2.a sl[k].h2.len sl[k].h2.cap, .slice sl[k].h3.a sl[k].h3.len sl[k].h3.cap, .bool sl[k].t.f4] 111)))
      have B2 := hide (bAl (unhide B) (.cells #[.string sl[k].t.f0, .string sl[k].t.f1, .slice sl[k].h2.a sl[k].h2.len sl[k].h2.cap, .slice sl[k].h3.a sl[k].h3.len sl[k].h3.cap, .bool sl[k].t.f4] 111))
      clear ES R B z2 z3 hrow
      generalize sl[k] = A at *
      obtain ⟨⟨g0, g1, g2, g3, g4⟩, ⟨x2, m2, j2⟩, ⟨x3, m3, j3⟩⟩ := A
      simp only at *
      go_wp2_with fail
      exact ⟨⟨k + 1, S + (m2 + m3), by omega, by go_num, by omega, congrArg (Value.int .i64) (by omega), ES2, R2, B2⟩, by simp [Go.RowKit.intOf]; omega⟩
    have ek : k = n2 := by omega
    have EE := hide (show S = sesN (sl.map (·.t)) by
      have := unhide ES
      rw [ek, unhide L2] at this
      rw [this]; congr 1
      rw [List.take_of_length_le (by simp)])
    clear ES HS HM L2
    have YN : Hid (G ↔ ((n1 : Int) + (n2 : Int) + (S : Int) ≤ 300 ∧ ∀ e ∈ gl, 0 ≤ e.t.f4 ∧ e.t.f4 ≤ 2)) := hide (by rw [unhide EE]; exact unhide DG)
    clear DG EE
    have x1 := (unhide R).at (o := 1) (v := .slice a1 n1 k1) rfl
    go_wp2_with fail
    clear x1
    go_loopw [35] (fun i w' => ∃ (k : Nat), k ≤ n1 ∧ i = .int .i64 k ∧ Hid (∀ i (h : i < gl.length), i < k → 0 ≤ gl[i].t.f4 ∧ gl[i].t.f4 ≤ 2) ∧ Hid (Below w.heap.size w w')) (fun i _ => n1 - (Go.RowKit.intOf i).toNat)
    case atStart => exact ⟨0, Nat.zero_le _, rfl, hide (fun i _ h => absurd h (Nat.not_lt_zero _)), B⟩
    case round =>
      clear B R
      obtain ⟨j, hj, rfl, hA, B⟩ := hrel
      by_cases hlj : j < n1
      case neg =>
        have AL := hide (show ∀ e ∈ gl, 0 ≤ e.t.f4 ∧ e.t.f4 ≤ 2 from fun e he => by
          obtain ⟨i, hi, rfl⟩ := List.getElem_of_mem he
          exact unhide hA i hi (by have := unhide L1; omega))
        clear hA
        by_cases h3 : (n1 : Int) + (n2 : Int) + (S : Int) ≤ 300
        · have d3 : decide ((n1 : Int) + (n2 : Int) + (S : Int) ≤ 300) = true := decide_eq_true h3
          have yes := hide ((unhide YN).2 ⟨h3, unhide AL⟩)
          clear h3 AL YN
          go_wp2_with fail
          go_ret
          exact ⟨retB (b := true) ⟨fun _ => unhide yes, fun _ => rfl⟩, unhide B⟩
        · have d3 : decide ((n1 : Int) + (n2 : Int) + (S : Int) ≤ 300) = false := decide_eq_false h3
          have no := hide (fun g => h3 ((unhide YN).1 g).1)
          clear h3 AL YN
          go_wp2_with fail
          go_ret
          exact ⟨retB (b := false) ⟨fun h => (by cases h), fun h => absurd h (unhide no)⟩, unhide B⟩
      have hk' : j < gl.length := by have := unhide L1; omega
      obtain ⟨b, off, e0, hrow⟩ := ((unhide HG).keep (unhide B)).at hlj
      simp only at e0
      subst e0
      have c0 := hrow.c0 j hk'
      have c1 := hrow.c1 j hk'
      have c2 := hrow.c2 j hk'
      have c3 := hrow.c3 j hk'
      have c4 := hrow.c4 j hk'
      have c5 := hrow.c5 j hk'
      have B2 := hide (bAl (unhide B) (.cells #[.string gl[j].t.f0, .string gl[j].t.f1, .string gl[j].t.f2, .int .i64 gl[j].t.f3, .int .i64 gl[j].t.f4, .int .i64 gl[j].t.f5] 112))
      have STP : Hid ((0 ≤ gl[j].t.f4 ∧ gl[j].t.f4 ≤ 2) → ∀ i (h : i < gl.length), i < j + 1 → 0 ≤ gl[i].t.f4 ∧ gl[i].t.f4 ≤ 2) := hide (fun g i hi h1 => by
        rcases Nat.lt_or_ge i j with h2 | h2
        · exact unhide hA i hi h2
        · obtain rfl : i = j := by omega
          exact g)
      have NOG : Hid (¬ (0 ≤ gl[j].t.f4 ∧ gl[j].t.f4 ≤ 2) → ¬ G) := hide (fun h g => h (((unhide YN).1 g).2 _ (List.getElem_mem hk')))
      clear hA B hrow YN
      generalize gl[j] = A at *
      obtain ⟨⟨f0, f1, f2, f3', f4, f5⟩⟩ := A
      simp only at *
      by_cases e1 : f4 < 0
      · have d1 : decide (f4 < 0) = true := decide_eq_true e1
        have no := hide (unhide NOG (fun h => by omega))
        clear NOG STP e1
        go_wp2_with fail
        go_ret
        exact ⟨retB (b := false) ⟨fun h => (by cases h), fun h => absurd h (unhide no)⟩, unhide B2⟩
      have d1 : decide (f4 < 0) = false := decide_eq_false e1
      by_cases e2 : 2 < f4
      · have d2 : decide (2 < f4) = true := decide_eq_true e2
        have no := hide (unhide NOG (fun h => by omega))
        clear NOG STP e1 e2
        go_wp2_with fail
        go_ret
        exact ⟨retB (b := false) ⟨fun h => (by cases h), fun h => absurd h (unhide no)⟩, unhide B2⟩
      have d2 : decide (2 < f4) = false := decide_eq_false e2
      have A2 := hide (unhide STP (by omega))
      clear NOG STP e1 e2
      go_wp2_with fail
      exact ⟨⟨j + 1, by omega, by go_num, A2, B2⟩, by simp [Go.RowKit.intOf]; omega⟩
set_option maxRecDepth 40000 in
set_option maxHeartbeats 8000000 in
theorem isAsSaid_n (h0 : Hd) (a1 : Option Addr) (n1 k1 : Nat) (a2 : Option Addr) (n2 k2 : Nat) (f3 : Int) (gl : List RoleGrantE) (sl : List RoleSessionE) (w : World) (hlg : gl.length ≤ 1048576) (hls : sl.length ≤ 1048576) (hsm : ∀ e ∈ sl, RoleSessionSm e.t) (hg : SqRoleGrantE w 0 ⟨a1, n1, k1⟩ gl) (hs : SqRoleSessionE w 0 ⟨a2, n2, k2⟩ sl) :
    Calls Tryz.prog 63 #[.agg #[.slice h0.a h0.len h0.cap, .slice a1 n1 k1, .slice a2 n2 k2, .int .i64 f3]] w fun e w' => RetB e (GSt (gl.map (·.t)) (sl.map (·.t))) ∧ Below w.heap.size w w' := by
  have HG := hide hg
  have HS := hide hs
  have HM := hide hsm
  have L1 := hide hg.1
  have L2 := hide hs.1
  simp only at L1 L2
  have N1 : n1 ≤ 1048576 := by have := unhide L1; omega
  have N2 : n2 ≤ 1048576 := by have := unhide L2; omega
  have DG : Hid (GSt (gl.map (·.t)) (sl.map (·.t)) ↔ ((n1 : Int) + (n2 : Int) + (sesN (sl.map (·.t)) : Int) ≤ 300 ∧ ∀ e ∈ gl, 0 ≤ e.t.f4 ∧ e.t.f4 ≤ 2)) := hide (by
    unfold GSt DepOk
    have e1 := unhide L1
    have e2 := unhide L2
    simp only [List.length_map, ← e1, ← e2]
    refine and_congr (by omega) ⟨fun h e he => h _ (List.mem_map_of_mem he), fun h g hg => ?_⟩
    obtain ⟨e, he, rfl⟩ := List.mem_map.1 hg
    exact h e he)
  generalize GSt (gl.map (·.t)) (sl.map (·.t)) = G at DG ⊢
  have R0 := hide (RowIs.new w #[.slice h0.a h0.len h0.cap, .slice a1 n1 k1, .slice a2 n2 k2, .int .i64 f3] 43)
  have B0 := hide (bAl (Below.refl w.heap.size w) (.cells #[.slice h0.a h0.len h0.cap, .slice a1 n1 k1, .slice a2 n2 k2, .int .i64 f3] 43))
  clear hg hs hsm hlg hls
  go_enter Tryz.func63, Tryz.ntmps63
  go_wp2_with fail
  go_loopw [3, 17] (fun n i w' => ∃ (k S : Nat), k ≤ n2 ∧ i = .int .i64 k ∧ S ≤ k * 2097152 ∧ n = .int .i64 ((n1 : Int) + (n2 : Int) + (S : Int)) ∧ Hid (S = sesN ((sl.map (·.t)).take k)) ∧ Hid (RowIs w' w.heap.size #[.slice h0.a h0.len h0.cap, .slice a1 n1 k1, .slice a2 n2 k2, .int .i64 f3] 43) ∧ Hid (Below w.heap.size w w')) (fun _ i _ => n2 - (Go.RowKit.intOf i).toNat)
  case atStart => exact ⟨0, 0, Nat.zero_le _, rfl, by omega, by simp, hide (by simp [sesN]), R0, B0⟩
  case round =>
    clear R0 B0
    obtain ⟨k, S, hk, rfl, hS, rfl, ES, R, B⟩ := hrel
    by_cases hlt : k < n2
    case pos =>
      have hk' : k < sl.length := by have := unhide L2; omega
      obtain ⟨b, off, e0, hrow⟩ := ((unhide HS).keep (unhide B)).at hlt
      simp only at e0
      subst e0
      have c0 := hrow.c0 k hk'
      have c1 := hrow.c1 k hk'
      have c2 := hrow.c2 k hk'
      have c3 := hrow.c3 k hk'
      have c4 := hrow.c4 k hk'
      have z2 : sl[k].h2.len = sl[k].t.f2.length := ((unhide HS).2.2 _ (List.getElem_mem hk')).m2.1
      have z3 : sl[k].h3.len = sl[k].t.f3.length := ((unhide HS).2.2 _ (List.getElem_mem hk')).m3.len
      have y2 := (unhide HM _ (List.getElem_mem hk')).l2
      have y3 := (unhide HM _ (List.getElem_mem hk')).l3
      have ES2 := hide (show S + (sl[k].h2.len + sl[k].h3.len) = sesN ((sl.map (·.t)).take (k + 1)) by
        rw [sesN_step (by simpa using hk'), ← unhide ES, z2, z3]; simp)
      rw [← z2] at y2
      rw [← z3] at y3
      have R2 := hide ((unhide R).keep (bAl (Below.refl wr.heap.size wr) (.cells #[.string sl[k].t.f0, .string sl[k].t.f1, .slice sl[k].h2.a sl[k].h2.len sl[k].h2.cap, .slice sl[k].h3.a sl[k].h3.len sl[k].h3.cap, .bool sl[k].t.f4] 111)))
      have B2 := hide (bAl (unhide B) (.cells #[.string sl[k].t.f0, .string sl[k].t.f1, .slice sl[k].h2.a sl[k].h2.len sl[k].h2.cap, .slice sl[k].h3.a sl[k].h3.len sl[k].h3.cap, .bool sl[k].t.f4] 111))
      clear ES R B z2 z3 hrow
      generalize sl[k] = A at *
      obtain ⟨⟨g0, g1, g2, g3, g4⟩, ⟨x2, m2, j2⟩, ⟨x3, m3, j3⟩⟩ := A
      simp only at *
      go_wp2_with fail
      exact ⟨⟨k + 1, S + (m2 + m3), by omega, by go_num, by omega, congrArg (Value.int .i64) (by omega), ES2, R2, B2⟩, by simp [Go.RowKit.intOf]; omega⟩
    have ek : k = n2 := by omega
    have EE := hide (show S = sesN (sl.map (·.t)) by
      have := unhide ES
      rw [ek, unhide L2] at this
      rw [this]; congr 1
      rw [List.take_of_length_le (by simp)])
    clear ES HS HM L2
    have YN : Hid (G ↔ ((n1 : Int) + (n2 : Int) + (S : Int) ≤ 300 ∧ ∀ e ∈ gl, 0 ≤ e.t.f4 ∧ e.t.f4 ≤ 2)) := hide (by rw [unhide EE]; exact unhide DG)
    clear DG EE
    have x1 := (unhide R).at (o := 1) (v := .slice a1 n1 k1) rfl
    have qe := hide (every_dep (fun e => 0 ≤ e.t.f4 ∧ e.t.f4 ≤ 2) ⟨a1, n1, k1⟩ gl wr (by unfold maxLen; have := unhide L1; omega) ((unhide HG).keep (unhide B)) (fun x hx w' hb => hasDepth_n x w'))
    clear R HG
    by_cases h3 : (n1 : Int) + (n2 : Int) + (S : Int) ≤ 300
    case neg =>
      have d3 : decide ((n1 : Int) + (n2 : Int) + (S : Int) ≤ 300) = false := decide_eq_false h3
      have no := hide (fun g => h3 ((unhide YN).1 g).1)
      clear h3 YN qe
      go_wp2_with fail
      go_ret
      exact ⟨retB (b := false) ⟨fun h => (by cases h), fun h => absurd h (unhide no)⟩, unhide B⟩
    have d3 : decide ((n1 : Int) + (n2 : Int) + (S : Int) ≤ 300) = true := decide_eq_true h3
    have YM := hide (show G ↔ ∀ e ∈ gl, 0 ≤ e.t.f4 ∧ e.t.f4 ≤ 2 from ⟨fun g => ((unhide YN).1 g).2, fun h => (unhide YN).2 ⟨h3, h⟩⟩)
    clear h3 YN
    go_wp2_with fail
    refine (unhide qe).mono ?_
    rintro e w1 ⟨⟨v, rfl, hv⟩, hb⟩
    have HV := hide hv
    have B2 := hide (bTr (unhide B) hb)
    clear hv qe hb B
    go_wp2_with fail
    go_ret
    exact ⟨retB (b := v) ((unhide HV).trans (unhide YM).symm), unhide B2⟩
end Go.Proofs.YtfbncneeimikcaaGreat.V
/- spec.l15Counts. -/
namespace Go.Proofs.YtfbncneeimikcaaGreat.V
set_option linter.unusedSimpArgs false
set_option linter.unusedVariables false
open Go.RowKit Go.Maps

theorem l15Lesser_any (a b : Int) (h : a < b) (w : World) : Calls Tryz.prog 77 #[.int .i64 a, .int .i64 b] w fun e w' => e = .returned (.int .i64 a) ∧ w = w' := by
  have d : decide (a < b) = true := decide_eq_true h
  go_enter Tryz.func77, Tryz.ntmps77
  go_wp2
  go_ret
  exact ⟨rfl, rfl⟩
def gMeets (l : List RoleGrantT) (t : Int) (n : Nat) (below : Int) (u r : ByteArray) (g : RoleGrantT) : Prop := g.f0 = u ∧ g.f1 = r ∧ g.f4 < below ∧ t ≤ g.f3 ∧ (g.f2 = ⟨#[]⟩ ∨ CntF l t n g.f4 g.f2 r)
set_option maxRecDepth 40000 in
set_option maxHeartbeats 8000000 in
theorem l15Counts_s (n : Nat) (h : Hd) (l : List RoleGrantE) (u r : ByteArray) (below t : Int) (w : World) (hl : l.length ≤ maxLen) (hs : SqRoleGrantE w 0 h l)
    (h0 : ∀ e ∈ l, 0 ≤ e.t.f4) (IH : ∀ (below' : Int) (u' : ByteArray) (w' : World), 0 ≤ below' → below' < below → Below w.heap.size w w' → Calls Tryz.prog 57 #[.slice h.a h.len h.cap, .string u', .string r, .int .i64 below', .int .i64 t] w' fun e w'' => RetB e (CntF (l.map (·.t)) t n below' u' r) ∧ Below w'.heap.size w' w'') :
    Calls Tryz.prog 57 #[.slice h.a h.len h.cap, .string u, .string r, .int .i64 below, .int .i64 t] w fun e w' => RetB e (CntF (l.map (·.t)) t (n + 1) below u r) ∧ Below w.heap.size w w' := by
  have HL := hide hs.1
  have LM : h.len ≤ maxLen := by rw [hs.1]; exact hl
  unfold maxLen at LM
  have HS := hide hs
  have HI := hide IH
  have D : Hid (CntF (l.map (·.t)) t (n + 1) below u r ↔ ∃ e ∈ l, gMeets (l.map (·.t)) t n below u r e.t) := hide (by
    show (∃ g ∈ l.map (·.t), _) ↔ _
    simp only [List.mem_map]
    constructor
    · rintro ⟨g, ⟨e, he, rfl⟩, q⟩; exact ⟨e, he, q⟩
    · rintro ⟨e, he, q⟩; exact ⟨e.t, ⟨e, he, rfl⟩, q⟩)
  generalize CntF (l.map (·.t)) t (n + 1) below u r = G at D ⊢
  obtain ⟨ts, hts⟩ : ∃ ts, ts = l.map (·.t) := ⟨_, rfl⟩
  rw [← hts] at D HI
  obtain ⟨a, len, cap⟩ := h
  simp only at HL LM HI
  clear hs hl IH hts
  go_enter Tryz.func57, Tryz.ntmps57
  go_wp2_with fail
  go_loopw [15] (fun i w' => ∃ k : Nat, k ≤ len ∧ i = .int .i64 k ∧ Hid (Below w.heap.size w w') ∧ Hid (∀ i (h : i < l.length), i < k → ¬ gMeets ts t n below u r l[i].t)) (fun i _ => len - (Go.RowKit.intOf i).toNat)
  case atStart => exact ⟨0, Nat.zero_le _, rfl, hide (Below.refl _ _), hide (fun i _ h => absurd h (Nat.not_lt_zero _))⟩
  case round =>
    obtain ⟨k, hk, rfl, B, hA⟩ := hrel
    by_cases hlt : k < len
    case neg =>
      have no : Hid (¬ G) := hide (fun g => by
        obtain ⟨e, he, h⟩ := (unhide D).1 g
        obtain ⟨i, hi, rfl⟩ := List.getElem_of_mem he
        exact unhide hA i hi (by have := unhide HL; omega) h)
      clear hA D HI
      go_wp2_with fail
      go_ret
      exact ⟨retB (b := false) ⟨fun h => (by cases h), fun h => absurd h (unhide no)⟩, unhide B⟩
    have hk' : k < l.length := by have := unhide HL; omega
    obtain ⟨b, off, e0, hrow⟩ := ((unhide HS).keep (unhide B)).at hlt
    simp only at e0
    subst e0
    have c0 := hrow.c0 k hk'
    have c1 := hrow.c1 k hk'
    have c2 := hrow.c2 k hk'
    have c3 := hrow.c3 k hk'
    have c4 := hrow.c4 k hk'
    have c5 := hrow.c5 k hk'
    have YES : Hid (gMeets ts t n below u r l[k].t → G) := hide (fun h => (unhide D).2 ⟨_, List.getElem_mem hk', h⟩)
    have STP : Hid (¬ gMeets ts t n below u r l[k].t → ∀ i (h : i < l.length), i < k + 1 → ¬ gMeets ts t n below u r l[i].t) := hide (fun g i hi h1 => by
      rcases Nat.lt_or_ge i k with h2 | h2
      · exact unhide hA i hi h2
      · obtain rfl : i = k := by omega
        exact g)
    obtain ⟨W, hW⟩ : ∃ W, W = wr.alloc (.cells #[.string l[k].t.f0, .string l[k].t.f1, .string l[k].t.f2, .int .i64 l[k].t.f3, .int .i64 l[k].t.f4, .int .i64 l[k].t.f5] 112) := ⟨_, rfl⟩
    have bW : Below wr.heap.size wr W := by rw [hW]; exact bAl (Below.refl _ _) _
    have qW : RowIs W wr.heap.size #[.string l[k].t.f0, .string l[k].t.f1, .string l[k].t.f2, .int .i64 l[k].t.f3, .int .i64 l[k].t.f4, .int .i64 l[k].t.f5] 112 := by rw [hW]; exact RowIs.new wr _ _
    have HW := hide hW
    have ne : Nonempty (Kept W) := ⟨⟨W, Below.refl _ _⟩⟩
    have x0 := kept_cell (W := W) (p := ⟨wr.heap.size, 0, none⟩) qW.lt (qW.at (o := 0) (v := .string l[k].t.f0) rfl)
    have x1 := kept_cell (W := W) (p := ⟨wr.heap.size, 1, none⟩) qW.lt (qW.at (o := 1) (v := .string l[k].t.f1) rfl)
    have x2 := kept_cell (W := W) (p := ⟨wr.heap.size, 2, none⟩) qW.lt (qW.at (o := 2) (v := .string l[k].t.f2) rfl)
    have x3 := kept_cell (W := W) (p := ⟨wr.heap.size, 3, none⟩) qW.lt (qW.at (o := 3) (v := .int .i64 l[k].t.f3) rfl)
    have x4 := kept_cell (W := W) (p := ⟨wr.heap.size, 4, none⟩) qW.lt (qW.at (o := 4) (v := .int .i64 l[k].t.f4) rfl)
    have x5 := kept_cell (W := W) (p := ⟨wr.heap.size, 5, none⟩) qW.lt (qW.at (o := 5) (v := .int .i64 l[k].t.f5) rfl)
    have bk := hide (bTr (unhide B) bW)
    have HP := hide (h0 _ (List.getElem_mem hk'))
    clear hW hA hrow qW D h0
    generalize l[k] = A at *
    obtain ⟨⟨f0, f1, f2, f3, f4, f5⟩⟩ := A
    simp only [gMeets] at *
    by_cases e0 : f0 = u
    case neg =>
      have d0 := str_neO e0
      have S := hide (unhide STP (fun h => e0 h.1))
      clear STP YES e0 HI
      go_wp2_with fail
      rw [← unhide HW]
      clear HW c0 c1 c2 c3 c4 c5
      refine wp_region_kept (by kernel_rfl) (by kernel_rfl) ?_
      repeat (first
        | go_big_quiet_step (fail)
        | quiet_step (fail))
      refine wpQuiet_nil ?_
      rintro _ ⟨q, rfl⟩
      have BE := hide (bTr (unhide bk) q.h)
      go_wp2_with fail
      exact ⟨⟨k + 1, by omega, by go_num, BE, S⟩, by simp [Go.RowKit.intOf]; omega⟩
    have d0 : (f0.toList == u.toList) = true := by rw [e0]; exact str_eqO _
    by_cases e1 : f1 = r
    case neg =>
      have d1 := str_neO e1
      have S := hide (unhide STP (fun h => e1 h.2.1))
      clear STP YES e0 e1 HI
      go_wp2_with fail
      rw [← unhide HW]
      clear HW c0 c1 c2 c3 c4 c5
      refine wp_region_kept (by kernel_rfl) (by kernel_rfl) ?_
      repeat (first
        | go_big_quiet_step (fail)
        | quiet_step (fail))
      refine wpQuiet_nil ?_
      rintro _ ⟨q, rfl⟩
      have BE := hide (bTr (unhide bk) q.h)
      go_wp2_with fail
      exact ⟨⟨k + 1, by omega, by go_num, BE, S⟩, by simp [Go.RowKit.intOf]; omega⟩
    have d1 : (f1.toList == r.toList) = true := by rw [e1]; exact str_eqO _
    by_cases e2 : f4 < below
    case neg =>
      have d2 : decide (f4 < below) = false := decide_eq_false e2
      have S := hide (unhide STP (fun h => e2 h.2.2.1))
      clear STP YES e0 e1 e2 HI
      go_wp2_with fail
      rw [← unhide HW]
      clear HW c0 c1 c2 c3 c4 c5
      refine wp_region_kept (by kernel_rfl) (by kernel_rfl) ?_
      repeat (first
        | go_big_quiet_step (fail)
        | quiet_step (fail))
      refine wpQuiet_nil ?_
      rintro _ ⟨q, rfl⟩
      have BE := hide (bTr (unhide bk) q.h)
      go_wp2_with fail
      exact ⟨⟨k + 1, by omega, by go_num, BE, S⟩, by simp [Go.RowKit.intOf]; omega⟩
    have d2 : decide (f4 < below) = true := decide_eq_true e2
    by_cases e3 : t ≤ f3
    case neg =>
      have d3 : decide (t ≤ f3) = false := decide_eq_false e3
      have S := hide (unhide STP (fun h => e3 h.2.2.2.1))
      clear STP YES e0 e1 e2 e3 HI
      go_wp2_with fail
      rw [← unhide HW]
      clear HW c0 c1 c2 c3 c4 c5
      refine wp_region_kept (by kernel_rfl) (by kernel_rfl) ?_
      repeat (first
        | go_big_quiet_step (fail)
        | quiet_step (fail))
      refine wpQuiet_nil ?_
      rintro _ ⟨q, rfl⟩
      have BE := hide (bTr (unhide bk) q.h)
      go_wp2_with fail
      exact ⟨⟨k + 1, by omega, by go_num, BE, S⟩, by simp [Go.RowKit.intOf]; omega⟩
    have d3 : decide (t ≤ f3) = true := decide_eq_true e3
    by_cases e4 : f2 = ⟨#[]⟩
    · have d4 : (f2.toList == []) = true := by rw [e4]; simp
      have yes := hide (unhide YES ⟨e0, e1, e2, e3, .inl e4⟩)
      clear STP YES e0 e1 e2 e3 e4 HI
      go_wp2_with fail
      rw [← unhide HW]
      clear HW c0 c1 c2 c3 c4 c5
      refine wp_region_kept (by kernel_rfl) (by kernel_rfl) ?_
      repeat (first
        | go_big_quiet_step (fail)
        | quiet_step (fail))
      refine wpQuiet_nil ?_
      rintro _ ⟨q, rfl⟩
      go_wp2_with fail
      go_ret
      exact ⟨retB (b := true) ⟨fun _ => unhide yes, fun _ => rfl⟩, bTr (unhide bk) q.h⟩
    have d4 : (f2.toList == []) = false := by have := str_neO e4; simpa using this
    by_cases e5 : CntF ts t n f4 f2 r
    · have yes := hide (unhide YES ⟨e0, e1, e2, e3, .inr e5⟩)
      have ql := hide (fun (q : Kept W) => l15Lesser_any f4 below e2 q.w)
      have qc := hide (fun (q : Kept W) => callsT (unhide HI f4 f2 q.w (unhide HP) e2 (bTr (unhide bk) q.h)) e5)
      clear STP YES e0 e1 e2 e3 e4 e5 HI
      go_wp2_with fail
      rw [← unhide HW]
      clear HW c0 c1 c2 c3 c4 c5
      refine wp_region_kept (by kernel_rfl) (by kernel_rfl) ?_
      repeat (first
        | go_big_quiet_step (first | (go_at_call 77; with_reducible exact kept_same (unhide ql _)) | (go_at_call 57; with_reducible exact kept_call (unhide qc _)))
        | quiet_step (first | (go_at_call 77; with_reducible exact kept_same (unhide ql _)) | (go_at_call 57; with_reducible exact kept_call (unhide qc _))))
      refine wpQuiet_nil ?_
      rintro _ ⟨q, rfl⟩
      go_wp2_with fail
      go_ret
      exact ⟨retB (b := true) ⟨fun _ => unhide yes, fun _ => rfl⟩, bTr (unhide bk) q.h⟩
    · have ql := hide (fun (q : Kept W) => l15Lesser_any f4 below e2 q.w)
      have qc := hide (fun (q : Kept W) => callsF (unhide HI f4 f2 q.w (unhide HP) e2 (bTr (unhide bk) q.h)) e5)
      have S := hide (unhide STP (fun h => h.2.2.2.2.elim e4 e5))
      clear STP YES e0 e1 e2 e3 e4 e5 HI
      go_wp2_with fail
      rw [← unhide HW]
      clear HW c0 c1 c2 c3 c4 c5
      refine wp_region_kept (by kernel_rfl) (by kernel_rfl) ?_
      repeat (first
        | go_big_quiet_step (first | (go_at_call 77; with_reducible exact kept_same (unhide ql _)) | (go_at_call 57; with_reducible exact kept_call (unhide qc _)))
        | quiet_step (first | (go_at_call 77; with_reducible exact kept_same (unhide ql _)) | (go_at_call 57; with_reducible exact kept_call (unhide qc _))))
      refine wpQuiet_nil ?_
      rintro _ ⟨q, rfl⟩
      have BE := hide (bTr (unhide bk) q.h)
      go_wp2_with fail
      exact ⟨⟨k + 1, by omega, by go_num, BE, S⟩, by simp [Go.RowKit.intOf]; omega⟩
theorem l15Counts_n (h : Hd) (l : List RoleGrantE) (r : ByteArray) (t : Int) (hl : l.length ≤ maxLen) (h0 : ∀ e ∈ l, 0 ≤ e.t.f4) : ∀ (n : Nat) (below : Int) (u : ByteArray) (w : World), below ≤ n → SqRoleGrantE w 0 h l →
    Calls Tryz.prog 57 #[.slice h.a h.len h.cap, .string u, .string r, .int .i64 below, .int .i64 t] w fun e w' => RetB e (CntF (l.map (·.t)) t (n + 1) below u r) ∧ Below w.heap.size w w'
  | 0, below, u, w, hb, hs => l15Counts_s 0 h l u r below t w hl hs h0 (fun below' u' w' h1 h2 hb' => by omega)
  | n + 1, below, u, w, hb, hs => l15Counts_s (n + 1) h l u r below t w hl hs h0 (fun below' u' w' h1 h2 hb' => l15Counts_n h l r t hl h0 n below' u' w' (by omega) (hs.keep hb'))
end Go.Proofs.YtfbncneeimikcaaGreat.V
