/- GoodThings, the program's side. -/
import Derived.Test.YtpfekkhnjaopdaaGreatZFd
import Derived.Test.YtpfekkhnjaopdaaGreatZTh
import Derived.Test.YtpfekkhnjaopdaaGreatWValI
namespace Go.Proofs.YtpfekkhnjaopdaaGreat.V
set_option linter.unusedSimpArgs false
open Go.RowKit

def GTh (x : ThingT) : Prop := refA x.f0 = true ∧ (x.f1.length ≤ 50 ∧ ∀ p ∈ x.f1, refA p = true) ∧ RisA x.f1 x.f1.length ∧ Fields x.f2 x.f3
def GThs (xs : List ThingT) : Prop := (xs.length ≤ 100 ∧ ∀ x ∈ xs, GTh x) ∧ ∀ i (h : i + 1 < xs.length), xs[i].f0.cmp xs[i + 1].f0 < 0
theorem refA.good {A : AtomT} (h : refA A = true) : A.good = true := by unfold refA at h; simp at h; exact h.2
theorem RetB.t {e : Ending} {p : Prop} (h : RetB e p) (hp : p) : e = .returned (.bool true) := by obtain ⟨b, rfl, hb⟩ := h; rw [hb.2 hp]
theorem RetB.f {e : Ending} {p : Prop} (h : RetB e p) (hp : ¬ p) : e = .returned (.bool false) := by
  obtain ⟨b, rfl, hb⟩ := h
  cases b
  · rfl
  · exact absurd (hb.1 rfl) hp
theorem callsT {P : Program} {f : FuncId} {args : Array Value} {w : World} {p : Prop} (h : Calls P f args w fun e w' => RetB e p ∧ Below w.heap.size w w') (hp : p) : Calls P f args w fun e w' => e = .returned (.bool true) ∧ Below w.heap.size w w' := h.mono fun _ _ k => ⟨k.1.t hp, k.2⟩
theorem callsF {P : Program} {f : FuncId} {args : Array Value} {w : World} {p : Prop} (h : Calls P f args w fun e w' => RetB e p ∧ Below w.heap.size w w') (hp : ¬ p) : Calls P f args w fun e w' => e = .returned (.bool false) ∧ Below w.heap.size w w' := h.mono fun _ _ k => ⟨k.1.f hp, k.2⟩
set_option maxHeartbeats 1000000 in
theorem thFields_any (e : ThingE) (w : World) : Calls Tryz.prog 100 #[.agg #[.int .i64 e.t.f0.x, .int .i64 e.t.f0.n, .string e.t.f0.t, .string e.t.f0.y, .slice e.h1.a e.h1.len e.h1.cap, .slice e.h2.a e.h2.len e.h2.cap, .slice e.h3.a e.h3.len e.h3.cap]] w fun r w' => r = .returned (.agg #[.slice e.h2.a e.h2.len e.h2.cap, .slice e.h3.a e.h3.len e.h3.cap]) ∧ Below w.heap.size w w' := by
  go_enter Tryz.func100, Tryz.ntmps100
  go_wp2_with fail
  exact bodyPost_ret (v := .agg #[.slice e.h2.a e.h2.len e.h2.cap, .slice e.h3.a e.h3.len e.h3.cap]) (by simp [results, Tryz.results100, go_sem]) rfl ⟨rfl, bAl (bAl (Below.refl _ _) _) _⟩
set_option maxRecDepth 20000 in
set_option maxHeartbeats 2000000 in
theorem goodThing_any (e : ThingE) (w : World) (hn : ThingN e.t) (hm : ThingM w 0 e) :
    Calls Tryz.prog 81 #[.agg #[.int .i64 e.t.f0.x, .int .i64 e.t.f0.n, .string e.t.f0.t, .string e.t.f0.y, .slice e.h1.a e.h1.len e.h1.cap, .slice e.h2.a e.h2.len e.h2.cap, .slice e.h3.a e.h3.len e.h3.cap]] w fun r w' => RetB r (GTh e.t) ∧ Below w.heap.size w w' := by
  have q0 := hide (fun w => isRef_any e.t.f0 w hn.o0)
  have q1 := hide (fun w hs => goodList_ref (fun A => refA A = true) 50 e.h1 e.t.f1 w hn.l1 hs (fun x hx w' _ => isRef_any x w' (hn.o1 x hx)))
  have q2 := hide (fun w hl hs hg => risingA_any e.h1.a e.h1.len e.h1.cap e.t.f1 w hl hs hn.o1 hg)
  have q5 := hide (fun w sn sv => fieldsGood_any e.h2 e.h3 e.t.f2 e.t.f3 w hn.o2 hn.l2 hn.o3 hn.l3 sn sv)
  have R := hide (RowIs.new w #[.int .i64 e.t.f0.x, .int .i64 e.t.f0.n, .string e.t.f0.t, .string e.t.f0.y, .slice e.h1.a e.h1.len e.h1.cap, .slice e.h2.a e.h2.len e.h2.cap, .slice e.h3.a e.h3.len e.h3.cap] 56)
  have B := hide (bAl (Below.refl w.heap.size w) (.cells #[.int .i64 e.t.f0.x, .int .i64 e.t.f0.n, .string e.t.f0.t, .string e.t.f0.y, .slice e.h1.a e.h1.len e.h1.cap, .slice e.h2.a e.h2.len e.h2.cap, .slice e.h3.a e.h3.len e.h3.cap] 56))
  have M1 := hide hm.m1
  have M2 := hide hm.m2
  have M3 := hide hm.m3
  have EL := hide hm.m1.1
  have D : Hid (GTh e.t ↔ (refA e.t.f0 = true ∧ (e.t.f1.length ≤ 50 ∧ ∀ p ∈ e.t.f1, refA p = true) ∧ RisA e.t.f1 e.t.f1.length ∧ Fields e.t.f2 e.t.f3)) := hide Iff.rfl
  generalize GTh e.t = G at D ⊢
  generalize Fields e.t.f2 e.t.f3 = FF at D q5
  generalize refA e.t.f0 = b0 at D q0
  clear hn hm
  go_enter Tryz.func81, Tryz.ntmps81
  go_wp2_with fail
  refine (unhide q0 _).mono ?_
  rintro r w0 ⟨⟨v0, rfl, hv0⟩, hb⟩
  replace R := hide ((unhide R).keep hb)
  replace B := hide (bTr (unhide B) hb)
  clear hb q0
  cases v0
  case false =>
    have no : Hid (¬ G) := hide (fun h => by have := hv0.2 ((unhide D).1 h).1; cases this)
    clear D hv0
    go_wp2_with fail
    go_ret
    exact ⟨retB (b := false) ⟨fun h => (by cases h), fun h => absurd h (unhide no)⟩, unhide B⟩
  have g0 := hide (hv0.1 rfl)
  clear hv0
  have c4 := (unhide R).at (o := 4) (v := .slice e.h1.a e.h1.len e.h1.cap) rfl
  go_wp2_with fail
  refine (unhide q1 _ ((unhide M1).keep (unhide B))).mono ?_
  rintro r w1 ⟨⟨v1, rfl, hv1⟩, hb⟩
  replace R := hide ((unhide R).keep hb)
  replace B := hide (bTr (unhide B) hb)
  have H1 := hide hv1
  clear hb q1 c4 hv1
  cases v1
  case false =>
    have no : Hid (¬ G) := hide (fun h => by have k := ((unhide D).1 h).2.1; have := (unhide H1).2 ⟨by exact_mod_cast k.1, k.2⟩; cases this)
    clear D
    go_wp2_with fail
    go_ret
    exact ⟨retB (b := false) ⟨fun h => (by cases h), fun h => absurd h (unhide no)⟩, unhide B⟩
  replace H1 := hide ((unhide H1).1 rfl)
  have h50 : e.h1.len ≤ 50 := by have := (unhide H1).1; have := unhide EL; omega
  have c4 := (unhide R).at (o := 4) (v := .slice e.h1.a e.h1.len e.h1.cap) rfl
  go_wp2_with fail
  refine (unhide q2 _ h50 ((unhide M1).keep (unhide B)).sl (fun i hi _ => refA.good ((unhide H1).2 _ (List.getElem_mem hi)))).mono ?_
  rintro r w2 ⟨⟨v2, rfl, hv2⟩, hb⟩
  replace R := hide ((unhide R).keep hb)
  replace B := hide (bTr (unhide B) hb)
  have H2 := hide hv2
  clear hb q2 c4 hv2 h50
  cases v2
  case false =>
    have no : Hid (¬ G) := hide (fun h => by have := (unhide H2).2 ((unhide D).1 h).2.2.1; cases this)
    clear D
    go_wp2_with fail
    go_ret
    exact ⟨retB (b := false) ⟨fun h => (by cases h), fun h => absurd h (unhide no)⟩, unhide B⟩
  replace H2 := hide ((unhide H2).1 rfl)
  have D2 : Hid (G ↔ FF) := hide ⟨fun h => ((unhide D).1 h).2.2.2, fun h => (unhide D).2 ⟨unhide g0, ⟨by have := (unhide H1).1; omega, (unhide H1).2⟩, unhide H2, h⟩⟩
  clear D g0 H1 H2
  have c0 := (unhide R).at (o := 0) (v := .int .i64 e.t.f0.x) rfl
  have c1 := (unhide R).at (o := 1) (v := .int .i64 e.t.f0.n) rfl
  have c2 := (unhide R).at (o := 2) (v := .string e.t.f0.t) rfl
  have c3 := (unhide R).at (o := 3) (v := .string e.t.f0.y) rfl
  have c4 := (unhide R).at (o := 4) (v := .slice e.h1.a e.h1.len e.h1.cap) rfl
  have c5 := (unhide R).at (o := 5) (v := .slice e.h2.a e.h2.len e.h2.cap) rfl
  have c6 := (unhide R).at (o := 6) (v := .slice e.h3.a e.h3.len e.h3.cap) rfl
  go_wp2_with fail
  refine (thFields_any e _).mono ?_
  rintro r w4 ⟨rfl, hb⟩
  replace B := hide (bTr (unhide B) hb)
  clear hb R c0 c1 c2 c3 c4 c5 c6
  go_wp2_with fail
  refine (unhide q5 _ ((unhide M2).keep (unhide B)) ((unhide M3).keep (unhide B))).mono ?_
  rintro r w5 ⟨⟨v, rfl, hv⟩, hb⟩
  have HV := hide hv
  replace B := hide (bTr (unhide B) hb)
  clear hb hv q5
  go_wp2_with fail
  go_ret
  exact ⟨retB (b := v) ((unhide HV).trans (unhide D2).symm), unhide B⟩
set_option maxHeartbeats 1000000 in
theorem notGood_thing  (P : ThingE → Prop) (b : Nat) (x : ThingE) (w : World) (hc : w.cell? ⟨b, 0, none⟩ = some (.func (.func 81) #[] #[]))
    (q : ∀ w' : World, Below w.heap.size w w' → Calls Tryz.prog 81 #[.agg #[.int .i64 x.t.f0.x, .int .i64 x.t.f0.n, .string x.t.f0.t, .string x.t.f0.y, .slice x.h1.a x.h1.len x.h1.cap, .slice x.h2.a x.h2.len x.h2.cap, .slice x.h3.a x.h3.len x.h3.cap]] w' fun e w'' => RetB e (P x) ∧ Below w'.heap.size w' w'') :
    Calls Tryz.prog 97 #[.agg #[.int .i64 x.t.f0.x, .int .i64 x.t.f0.n, .string x.t.f0.t, .string x.t.f0.y, .slice x.h1.a x.h1.len x.h1.cap, .slice x.h2.a x.h2.len x.h2.cap, .slice x.h3.a x.h3.len x.h3.cap], .pointer (some ⟨b, 0, none⟩)] w fun e w' => RetB e (¬ P x) ∧ Below w.heap.size w w' := by
  have HB := hide (bAl (Below.refl w.heap.size w) (.cells #[.int .i64 x.t.f0.x, .int .i64 x.t.f0.n, .string x.t.f0.t, .string x.t.f0.y, .slice x.h1.a x.h1.len x.h1.cap, .slice x.h2.a x.h2.len x.h2.cap, .slice x.h3.a x.h3.len x.h3.cap] 56))
  have zb : b < w.heap.size := World.block_lt_of_cell? w ⟨b, 0, none⟩ hc
  have Q := hide (q _ (unhide HB))
  clear q
  go_enter Tryz.func97, Tryz.ntmps97
  go_wp2_with fail
  refine (unhide Q).mono ?_
  rintro e w1 ⟨⟨v, rfl, hv⟩, hb⟩
  have B1 := hide (bTr (unhide HB) hb)
  have HV := hide hv
  clear hb HB Q hc hv
  go_wp2_with fail
  go_ret
  refine ⟨retB (b := !v) ?_, unhide B1⟩
  rw [← unhide HV]; cases v <;> simp
set_option maxHeartbeats 1000000 in
theorem indexBad_thing  (P : ThingE → Prop) (b : Nat) (h : Hd) (l : List ThingE) (w : World) (hl : l.length ≤ maxLen) (hs : SqThingE w 0 h l) (hc : w.cell? ⟨b, 0, none⟩ = some (.func (.func 81) #[] #[]))
    (q : ∀ x ∈ l, ∀ w' : World, Below w.heap.size w w' → Calls Tryz.prog 81 #[.agg #[.int .i64 x.t.f0.x, .int .i64 x.t.f0.n, .string x.t.f0.t, .string x.t.f0.y, .slice x.h1.a x.h1.len x.h1.cap, .slice x.h2.a x.h2.len x.h2.cap, .slice x.h3.a x.h3.len x.h3.cap]] w' fun e w'' => RetB e (P x) ∧ Below w'.heap.size w' w'') :
    Calls Tryz.prog 115 #[.slice h.a h.len h.cap, .func (.func 97) #[] #[.pointer (some ⟨b, 0, none⟩)]] w fun e w' => (∃ v : Int, e = .returned (.int .i64 v) ∧ (0 ≤ v ↔ ¬ ∀ x ∈ l, P x)) ∧ Below w.heap.size w w' := by
  have HS := hide hs
  have zb : b < w.heap.size := World.block_lt_of_cell? w ⟨b, 0, none⟩ hc
  have HC := hide (fun (w' : World) (h : Below w.heap.size w w') => cellB (w' := w') h zb hc)
  have HQ := hide q
  have HL := hide hs.1
  have hlm : h.len ≤ maxLen := by rw [hs.1]; exact hl
  unfold maxLen at hlm
  obtain ⟨a, len, cap⟩ := h
  simp only at hlm HL
  clear hs hc q hl
  go_enter Tryz.func115, Tryz.ntmps115
  go_wp2_with fail
  go_loopw [8] (fun i w' => ∃ k : Nat, k ≤ len ∧ i = .int .i64 k ∧ Hid (Below w.heap.size w w') ∧ Hid (∀ i (h : i < l.length), i < k → P l[i])) (fun i _ => len - (Go.RowKit.intOf i).toNat)
  case atStart => exact ⟨0, Nat.zero_le _, rfl, hide (Below.refl _ _), hide (fun i _ h => absurd h (Nat.not_lt_zero _))⟩
  case round =>
    obtain ⟨k, hk, rfl, hb, hA⟩ := hrel
    by_cases hlt : k < len
    · have hk' : k < l.length := by have := unhide HL; omega
      obtain ⟨b1, off, e0, hrow⟩ := ((unhide HS).keep (unhide hb)).at hlt
      simp only at e0
      subst e0
      have c0 := hrow.c0 k hk'
      have c1 := hrow.c1 k hk'
      have c2 := hrow.c2 k hk'
      have c3 := hrow.c3 k hk'
      have c4 := hrow.c4 k hk'
      have c5 := hrow.c5 k hk'
      have c6 := hrow.c6 k hk'
      have zk := hrow.z
      have q := hide (notGood_thing  P b l[k] wr (unhide HC _ (unhide hb)) (fun w' h => unhide HQ _ (List.getElem_mem hk') w' (bTr (unhide hb) h)))
      have eS : Hid (P l[k] → ∀ i (h : i < l.length), i < k + 1 → P l[i]) := hide (fun g i hi h1 => by
        rcases Nat.lt_or_ge i k with h2 | h2
        · exact unhide hA i hi h2
        · obtain rfl : i = k := by omega
          exact g)
      have eN : Hid (¬ P l[k] → ¬ ∀ x ∈ l, P x) := hide (fun g h => g (h _ (List.getElem_mem hk')))
      clear hrow
      generalize l[k] = A at *
      go_wp2_with fail
      refine (unhide q).mono ?_
      rintro e w1 ⟨⟨v, rfl, hv⟩, hb1⟩
      have B1 := hide (bTr (unhide hb) hb1)
      have HV := hide hv
      clear hb1 q hv c0 c1 c2 c3 c4 c5 c6
      cases v
      · have S := hide (unhide eS (Classical.byContradiction fun h => by have := (unhide HV).2 h; cases this))
        clear eS eN HV
        go_wp2_with fail
        exact ⟨⟨k + 1, by omega, by go_num, B1, S⟩, by simp [Go.RowKit.intOf]; omega⟩
      · have N := hide (unhide eN ((unhide HV).1 rfl))
        clear eS eN HV
        go_wp2_with fail
        go_ret
        exact ⟨⟨_, rfl, fun _ => unhide N, fun _ => by omega⟩, unhide B1⟩
    · have S : Hid (∀ x ∈ l, P x) := hide (fun x hx => by
        obtain ⟨i, hi, rfl⟩ := List.getElem_of_mem hx
        exact unhide hA i hi (by have := unhide HL; omega))
      go_wp2_with fail
      go_ret
      exact ⟨⟨_, rfl, fun h => absurd h (by decide), fun h => absurd (unhide S) h⟩, unhide hb⟩
set_option maxHeartbeats 1000000 in
theorem goodList_thing  (P : ThingE → Prop) (most : Int) (h : Hd) (l : List ThingE) (w : World) (hl : l.length ≤ maxLen) (hs : SqThingE w 0 h l)
    (q : ∀ x ∈ l, ∀ w' : World, Below w.heap.size w w' → Calls Tryz.prog 81 #[.agg #[.int .i64 x.t.f0.x, .int .i64 x.t.f0.n, .string x.t.f0.t, .string x.t.f0.y, .slice x.h1.a x.h1.len x.h1.cap, .slice x.h2.a x.h2.len x.h2.cap, .slice x.h3.a x.h3.len x.h3.cap]] w' fun e w'' => RetB e (P x) ∧ Below w'.heap.size w' w'') :
    Calls Tryz.prog 80 #[.slice h.a h.len h.cap, .int .i64 most, .func (.func 81) #[] #[]] w fun e w' => RetB e ((l.length : Int) ≤ most ∧ ∀ x ∈ l, P x) ∧ Below w.heap.size w w' := by
  have HS := hide hs
  have HQ := hide q
  have HL := hide hs.1
  have HM := hide hl
  clear hs q hl
  by_cases h200 : (h.len : Int) ≤ most
  · obtain ⟨W, hW⟩ : ∃ W, W = w.alloc (.cells #[.func (.func 81) #[] #[]] 115) := ⟨_, rfl⟩
    have R := show RowIs W w.heap.size #[.func (.func 81) #[] #[]] 115 by rw [hW]; exact RowIs.new _ _ _
    have B := hide (show Below w.heap.size w W by rw [hW]; exact bAl (Below.refl _ _) _)
    have HW := hide hW.symm
    clear hW
    have q := hide (fun hc => indexBad_thing  P w.heap.size h l W (unhide HM) ((unhide HS).keep (unhide B)) hc (fun x hx w' h => unhide HQ x hx w' (bTr (unhide B) h)))
    have q2 : Hid (Calls Tryz.prog 96 #[.slice h.a h.len h.cap, .func (.func 97) #[] #[.pointer (some ⟨w.heap.size, 0, none⟩)]] W fun e w' => (∃ v : Bool, e = .returned (.bool v) ∧ (v = true ↔ ¬ ∀ x ∈ l, P x)) ∧ Below W.heap.size W w') := hide (by
      have q := hide (unhide q (R.at (o := 0) rfl))
      go_enter Tryz.func96, Tryz.ntmps96
      go_wp2_with fail
      refine (unhide q).mono ?_
      rintro e w1 ⟨⟨v, rfl, hv⟩, hb⟩
      have HV := hide hv
      clear hv
      go_wp2_with fail
      go_ret
      exact ⟨⟨decide (0 ≤ v), rfl, by rw [decide_eq_true_iff]; exact unhide HV⟩, hb⟩)
    have hst := @run_store Tryz.prog
    clear q R
    go_enter Tryz.func80, Tryz.ntmps80
    go_wp2_with fail
    rw [unhide HW]
    refine (unhide q2).mono ?_
    rintro e w1 ⟨⟨v, rfl, hv⟩, hb⟩
    have HV := hide hv
    have B1 := hide (bTr (unhide B) hb)
    clear hv hb q2 hst HW B
    go_wp2_with fail
    go_ret
    have hle := unhide HL
    refine ⟨retB (b := !v) ⟨fun h => ?_, fun h => ?_⟩, unhide B1⟩
    · cases v
      · refine ⟨by omega, ?_⟩
        have := unhide HV
        exact Classical.byContradiction fun hn => by have := this.2 hn; cases this
      · cases h
    · cases v
      · rfl
      · exact absurd h.2 ((unhide HV).1 rfl)
  · have d : decide ((h.len : Int) ≤ most) = false := by simpa using h200
    have B := hide (bAl (Below.refl w.heap.size w) (.cells #[.func (.func 81) #[] #[]] 115))
    have hst := @run_store Tryz.prog
    go_enter Tryz.func80, Tryz.ntmps80
    go_wp2_with fail
    go_ret
    have hle := unhide HL
    exact ⟨retB (b := false) ⟨fun h => (by cases h), fun h => absurd h.1 (by omega)⟩, unhide B⟩
set_option maxHeartbeats 1000000 in
theorem byRef_any (P Q : ThingE) (w : World) (hp : ThingN P.t) (hq : ThingN Q.t) (gp : refA P.t.f0 = true) (gq : refA Q.t.f0 = true) :
    Calls Tryz.prog 79 #[.agg #[.int .i64 P.t.f0.x, .int .i64 P.t.f0.n, .string P.t.f0.t, .string P.t.f0.y, .slice P.h1.a P.h1.len P.h1.cap, .slice P.h2.a P.h2.len P.h2.cap, .slice P.h3.a P.h3.len P.h3.cap], .agg #[.int .i64 Q.t.f0.x, .int .i64 Q.t.f0.n, .string Q.t.f0.t, .string Q.t.f0.y, .slice Q.h1.a Q.h1.len Q.h1.cap, .slice Q.h2.a Q.h2.len Q.h2.cap, .slice Q.h3.a Q.h3.len Q.h3.cap]] w fun r w' => r = .returned (.int .i64 (P.t.f0.cmp Q.t.f0)) ∧ Below w.heap.size w w' := by
  have q := hide (fun w => AtomT.iCmp P.t.f0 Q.t.f0 hp.o0 hq.o0 (refA.good gp) (refA.good gq) w)
  have B := hide (bAl (bAl (Below.refl w.heap.size w) (.cells #[.int .i64 P.t.f0.x, .int .i64 P.t.f0.n, .string P.t.f0.t, .string P.t.f0.y, .slice P.h1.a P.h1.len P.h1.cap, .slice P.h2.a P.h2.len P.h2.cap, .slice P.h3.a P.h3.len P.h3.cap] 56)) (.cells #[.int .i64 Q.t.f0.x, .int .i64 Q.t.f0.n, .string Q.t.f0.t, .string Q.t.f0.y, .slice Q.h1.a Q.h1.len Q.h1.cap, .slice Q.h2.a Q.h2.len Q.h2.cap, .slice Q.h3.a Q.h3.len Q.h3.cap] 56))
  generalize P.t.f0.cmp Q.t.f0 = c at q ⊢
  clear hp hq gp gq
  go_enter Tryz.func79, Tryz.ntmps79
  go_wp2_with fail
  refine (unhide q _).mono ?_
  rintro r w1 ⟨rfl, hb⟩
  replace B := hide (bTr (unhide B) hb)
  clear hb
  go_wp2_with fail
  go_ret
  exact ⟨rfl, unhide B⟩
set_option maxRecDepth 20000 in
set_option maxHeartbeats 4000000 in
theorem rising_thing  (c : ThingE → ThingE → Int) (h : Hd) (l : List ThingE) (w : World) (hl : l.length ≤ maxLen) (hs : SqThingE w 0 h l)
    (qq : ∀ x ∈ l, ∀ y ∈ l, ∀ w' : World, Below w.heap.size w w' → Calls Tryz.prog 79 #[.agg #[.int .i64 x.t.f0.x, .int .i64 x.t.f0.n, .string x.t.f0.t, .string x.t.f0.y, .slice x.h1.a x.h1.len x.h1.cap, .slice x.h2.a x.h2.len x.h2.cap, .slice x.h3.a x.h3.len x.h3.cap], .agg #[.int .i64 y.t.f0.x, .int .i64 y.t.f0.n, .string y.t.f0.t, .string y.t.f0.y, .slice y.h1.a y.h1.len y.h1.cap, .slice y.h2.a y.h2.len y.h2.cap, .slice y.h3.a y.h3.len y.h3.cap]] w' fun e w'' => e = .returned (.int .i64 (c x y)) ∧ Below w'.heap.size w' w'') :
    Calls Tryz.prog 82 #[.slice h.a h.len h.cap, .func (.func 79) #[] #[]] w fun e w' => RetB e (∀ i (h : i + 1 < l.length), c l[i] l[i + 1] < 0) ∧ Below w.heap.size w w' := by
  have HS := hide hs
  have HQ := hide qq
  have HL := hide hs.1
  have hlm : h.len ≤ maxLen := by rw [hs.1]; exact hl
  unfold maxLen at hlm
  obtain ⟨a, len, cap⟩ := h
  simp only at hlm HL
  clear hs qq hl
  go_enter Tryz.func82, Tryz.ntmps82
  go_wp2
  go_loopw [5] (fun i w' => ∃ k : Nat, 1 ≤ k ∧ (k ≤ len ∨ k = 1) ∧ i = .int .i64 k ∧ Hid (Below w.heap.size w w') ∧ Hid (∀ i (h : i + 1 < l.length), i + 1 < k → c l[i] l[i + 1] < 0)) (fun i _ => len - (Go.RowKit.intOf i).toNat)
  case atStart => exact ⟨1, Nat.le_refl _, .inr rfl, rfl, hide (Below.refl _ _), hide (fun i _ h => absurd h (by omega))⟩
  case round =>
    obtain ⟨k, hk1, hk, rfl, hb, hris⟩ := hrel
    by_cases hlt : k < len
    · obtain ⟨j, rfl⟩ : ∃ j, k = j + 1 := ⟨k - 1, by omega⟩
      have hk' : j + 1 < l.length := by have := unhide HL; omega
      have hj : j < l.length := by omega
      obtain ⟨b1, off, e0, hrow⟩ := ((unhide HS).keep (unhide hb)).at hlt
      simp only at e0
      subst e0
      have p0 := hrow.c0 (j + 1) hk'
      have p1 := hrow.c1 (j + 1) hk'
      have p2 := hrow.c2 (j + 1) hk'
      have p3 := hrow.c3 (j + 1) hk'
      have p4 := hrow.c4 (j + 1) hk'
      have p5 := hrow.c5 (j + 1) hk'
      have p6 := hrow.c6 (j + 1) hk'
      have o0 := hrow.c0 j hj
      have o1 := hrow.c1 j hj
      have o2 := hrow.c2 j hj
      have o3 := hrow.c3 j hj
      have o4 := hrow.c4 j hj
      have o5 := hrow.c5 j hj
      have o6 := hrow.c6 j hj
      have zk := hrow.z
      have qc := hide (fun (q : Kept wr) => unhide HQ l[j] (List.getElem_mem hj) l[j + 1] (List.getElem_mem hk') q.w (bTr (unhide hb) q.h))
      have stepR : Hid (c l[j] l[j + 1] < 0 → ∀ i (h : i + 1 < l.length), i + 1 < j + 1 + 1 → c l[i] l[i + 1] < 0) := hide (fun g i hi h1 => by
        rcases Nat.lt_or_ge i j with h2 | h2
        · exact unhide hris i hi (by omega)
        · obtain rfl : i = j := by omega
          exact g)
      have noR : Hid (¬ c l[j] l[j + 1] < 0 → ¬ ∀ i (h : i + 1 < l.length), c l[i] l[i + 1] < 0) := hide (fun g h => g (h j hk'))
      clear hrow hris
      generalize c l[j] l[j + 1] = cc at qc stepR noR
      generalize l[j + 1] = P at p0 p1 p2 p3 p4 p5 p6 qc
      generalize l[j] = Q at o0 o1 o2 o3 o4 o5 o6 qc
      have ne : Nonempty (Kept wr) := ⟨⟨wr, Below.refl _ _⟩⟩
      have x0 := kept_cell zk p0
      have y0 := kept_cell zk o0
      have x1 := kept_cell zk p1
      have y1 := kept_cell zk o1
      have x2 := kept_cell zk p2
      have y2 := kept_cell zk o2
      have x3 := kept_cell zk p3
      have y3 := kept_cell zk o3
      have x4 := kept_cell zk p4
      have y4 := kept_cell zk o4
      have x5 := kept_cell zk p5
      have y5 := kept_cell zk o5
      have x6 := kept_cell zk p6
      have y6 := kept_cell zk o6
      have ej : IntKind.i64.wrap ((j : Int) + 1 - 1) = (j : Int) := by rw [IntKind.wrap_i64]; omega
      have i0 : (0 : Int) ≤ (j : Int) := by omega
      have i1 : (j : Int) < (len : Int) := by omega
      have i2 : (j : Int) + 1 < (len : Int) := by omega
      clear p0 o0 p1 o1 p2 o2 p3 o3 p4 o4 p5 o5 p6 o6 zk
      by_cases hc : cc < 0
      · have dc : decide (0 ≤ cc) = false := by simp; omega
        replace stepR := hide (unhide stepR hc)
        clear hc noR
        go_wp2_with fail
        refine wp_region_kept (by kernel_rfl) (by kernel_rfl) ?_
        repeat (first
          | go_big_quiet_step ((go_at_call 79; exact kept_call (unhide qc _)))
          | quiet_step ((go_at_call 79; exact kept_call (unhide qc _))))
        refine wpQuiet_nil ?_
        rintro _ ⟨q, rfl⟩
        go_wp2_with fail
        exact ⟨⟨j + 1 + 1, by omega, by omega, by go_num, hide (bTr (unhide hb) q.h), stepR⟩, by simp [Go.RowKit.intOf]; omega⟩
      · have dc : decide (0 ≤ cc) = true := by simp; omega
        replace noR := hide (unhide noR hc)
        clear hc stepR
        go_wp2_with fail
        refine wp_region_kept (by kernel_rfl) (by kernel_rfl) ?_
        repeat (first
          | go_big_quiet_step ((go_at_call 79; exact kept_call (unhide qc _)))
          | quiet_step ((go_at_call 79; exact kept_call (unhide qc _))))
        refine wpQuiet_nil ?_
        rintro _ ⟨q, rfl⟩
        go_wp2_with fail
        go_ret
        exact ⟨retB (b := false) ⟨fun h => (by cases h), fun h => absurd h (unhide noR)⟩, bTr (unhide hb) q.h⟩
    · have hR : Hid (∀ i (h : i + 1 < l.length), c l[i] l[i + 1] < 0) := hide (fun i h => unhide hris i h (by have := unhide HL; omega))
      clear hris
      go_wp2_with fail
      go_ret
      exact ⟨retB (b := true) ⟨fun _ => unhide hR, fun _ => rfl⟩, unhide hb⟩
set_option maxHeartbeats 1000000 in
theorem iGoodThings_n (h : Hd) (xs : List ThingT) (w : World) (hn : ∀ q ∈ xs, ThingN q) (hl : xs.length ≤ maxLen) (hs : SqThing w 0 h xs) :
    Calls Tryz.prog 52 #[.slice h.a h.len h.cap] w fun r w' => RetB r (GThs xs) ∧ Below w.heap.size w w' := by
  obtain ⟨l, rfl, hs⟩ := hs
  have hl' : l.length ≤ maxLen := by simpa using hl
  have hn' : ∀ e ∈ l, ThingN e.t := fun e he => hn _ (List.mem_map_of_mem he)
  have q1 := hide (goodList_thing (fun e => GTh e.t) 100 h l w hl' hs (fun x hx w' hb => goodThing_any x w' (hn' x hx) ((hs.2.2 x hx).keep hb)))
  have q2 : Hid ((∀ x ∈ l, GTh x.t) → l.length ≤ maxLen → ∀ w1, Below w.heap.size w w1 → Calls Tryz.prog 82 #[.slice h.a h.len h.cap, .func (.func 79) #[] #[]] w1 fun e w' => RetB e (∀ i (h : i + 1 < l.length), (l[i]).t.f0.cmp (l[i + 1]).t.f0 < 0) ∧ Below w1.heap.size w1 w') := hide (fun hg hm w1 hb =>
    rising_thing (fun x y => x.t.f0.cmp y.t.f0) h l w1 hm (hs.keep hb) (fun x hx y hy w' _ => byRef_any x y w' (hn' x hx) (hn' y hy) (hg x hx).1 (hg y hy).1))
  have D : Hid (GThs (l.map (·.t)) ↔ ((l.length ≤ 100 ∧ ∀ x ∈ l, GTh x.t) ∧ ∀ i (h : i + 1 < l.length), (l[i]).t.f0.cmp (l[i + 1]).t.f0 < 0)) := hide (by
    unfold GThs
    simp)
  generalize GThs (l.map (·.t)) = G at D ⊢
  clear hs hl hn hn' hl'
  go_enter Tryz.func52, Tryz.ntmps52
  go_wp2_with fail
  refine (unhide q1).mono ?_
  rintro r w1 ⟨⟨v1, rfl, hv1⟩, hb⟩
  have B := hide hb
  have H1 := hide hv1
  clear hb hv1 q1
  cases v1
  case false =>
    have no : Hid (¬ G) := hide (fun h => by have k := ((unhide D).1 h).1; have := (unhide H1).2 ⟨by exact_mod_cast k.1, k.2⟩; cases this)
    clear D q2
    go_wp2_with fail
    go_ret
    exact ⟨retB (b := false) ⟨fun h => (by cases h), fun h => absurd h (unhide no)⟩, unhide B⟩
  replace H1 := hide ((unhide H1).1 rfl)
  have h100 : l.length ≤ 100 := by have := (unhide H1).1; omega
  go_wp2_with fail
  refine (unhide q2 (unhide H1).2 (by unfold maxLen; omega) _ (unhide B)).mono ?_
  rintro r w2 ⟨⟨v2, rfl, hv2⟩, hb⟩
  replace B := hide (bTr (unhide B) hb)
  have H2 := hide hv2
  clear hb hv2 q2
  go_wp2_with fail
  go_ret
  exact ⟨retB (b := v2) ((unhide H2).trans ⟨fun h => (unhide D).2 ⟨⟨h100, (unhide H1).2⟩, h⟩, fun h => ((unhide D).1 h).2⟩), unhide B⟩
end Go.Proofs.YtpfekkhnjaopdaaGreat.V
