/- impl: goodActionType; PolSchema.inOrder. -/
import Derived.Test.YtkfbecelfkbkkaaZIc
namespace Go.Proofs.Ytkfbecelfkbkkaa.V
set_option linter.unusedSimpArgs false
set_option linter.unusedVariables false
open Go.RowKit

set_option maxRecDepth 20000 in
set_option maxHeartbeats 4000000 in
theorem goodActionType_n (b1 b2 : Nat) (ns : List ByteArray) (e : ActionTypeE) (w : World) (h0 : ¬ (⟨#[]⟩ : ByteArray) ∈ ns) (hn : ActionTypeN e.t) (hm : ActionTypeM w 0 e) (hk : KT w b1 ns) :
    Calls Try.prog 93 #[.agg #[.map (some b1), .map (some b2)], .agg #[.string e.t.f0, .slice e.h1.a e.h1.len e.h1.cap, .slice e.h2.a e.h2.len e.h2.cap, .slice e.h3.a e.h3.len e.h3.cap]] w fun r w' => RetB r (GAcT ns e.t) ∧ Below w.heap.size w w' := by
  have q0 := hide (fun w => isId_any e.t.f0 hn.o0 w)
  have q1 := hide (fun (w' : World) (hb : Below w.heap.size w w') => goodTypes_n b1 b2 ns e.h1 e.t.f1 w' hn.l1 hn.o1 (hk.keep hb) (hm.m1.keep hb))
  have q2 := hide (fun (w' : World) (hb : Below w.heap.size w w') => goodTypes_n b1 b2 ns e.h2 e.t.f2 w' hn.l2 hn.o2 (hk.keep hb) (hm.m2.keep hb))
  have q3 := hide (fun (w' : World) (hb : Below w.heap.size w w') => attrsGood_n b1 b2 ns e.h3 e.t.f3 w' h0 hn.l3 hn.o3 (hk.keep hb) (hm.m3.keep hb))
  have P := hide ((RowIs.new w #[.map (some b1), .map (some b2)] 102).keep (bAl (Below.refl _ _) (.cells #[.string e.t.f0, .slice e.h1.a e.h1.len e.h1.cap, .slice e.h2.a e.h2.len e.h2.cap, .slice e.h3.a e.h3.len e.h3.cap] 96)))
  have R : Hid (RowIs ((w.alloc (.cells #[.map (some b1), .map (some b2)] 102)).alloc (.cells #[.string e.t.f0, .slice e.h1.a e.h1.len e.h1.cap, .slice e.h2.a e.h2.len e.h2.cap, .slice e.h3.a e.h3.len e.h3.cap] 96)) (w.heap.size + 1) #[.string e.t.f0, .slice e.h1.a e.h1.len e.h1.cap, .slice e.h2.a e.h2.len e.h2.cap, .slice e.h3.a e.h3.len e.h3.cap] 96) := hide (by have := RowIs.new (w.alloc (.cells #[.map (some b1), .map (some b2)] 102)) #[.string e.t.f0, .slice e.h1.a e.h1.len e.h1.cap, .slice e.h2.a e.h2.len e.h2.cap, .slice e.h3.a e.h3.len e.h3.cap] 96; simpa using this)
  have B := hide (bAl (bAl (Below.refl w.heap.size w) (.cells #[.map (some b1), .map (some b2)] 102)) (.cells #[.string e.t.f0, .slice e.h1.a e.h1.len e.h1.cap, .slice e.h2.a e.h2.len e.h2.cap, .slice e.h3.a e.h3.len e.h3.cap] 96))
  have EL1 := hide hm.m1.1
  have EL2 := hide hm.m2.1
  have D : Hid (GAcT ns e.t ↔ (idB e.t.f0 = true ∧ ¬ e.t.f1.length < 1 ∧ ¬ e.t.f2.length < 1 ∧ GTypes ns e.t.f1 ∧ GTypes ns e.t.f2 ∧ GAttrs ns e.t.f3)) := hide Iff.rfl
  generalize GAcT ns e.t = G at D ⊢
  generalize GTypes ns e.t.f1 = PT at D q1
  generalize GTypes ns e.t.f2 = PU at D q2
  generalize GAttrs ns e.t.f3 = PA at D q3
  clear hn hm hk h0
  cases g0 : idB e.t.f0
  · rw [g0] at q0
    have no : Hid (¬ G) := hide (fun g => by have := ((unhide D).1 g).1; rw [g0] at this; cases this)
    clear D g0
    go_enter Try.func93, Try.ntmps93
    go_wp2_with fail
    refine (unhide q0 _).mono ?_
    rintro r w0 ⟨rfl, hb⟩
    replace B := hide (bTr (unhide B) hb)
    clear hb
    go_wp2_with fail
    go_ret
    exact ⟨retB (b := false) ⟨fun h => (by cases h), fun h => absurd h (unhide no)⟩, unhide B⟩
  rw [g0] at q0
  go_enter Try.func93, Try.ntmps93
  go_wp2_with fail
  refine (unhide q0 _).mono ?_
  rintro r w0 ⟨rfl, hb⟩
  replace R := hide ((unhide R).keep hb)
  replace P := hide ((unhide P).keep hb)
  replace B := hide (bTr (unhide B) hb)
  clear hb q0
  have c1 := (unhide R).at (o := 1) (v := .slice e.h1.a e.h1.len e.h1.cap) rfl
  have p0 := (unhide P).at (o := 0) (v := .map (some b1)) rfl
  have p1 := (unhide P).at (o := 1) (v := .map (some b2)) rfl
  by_cases g1 : e.t.f1.length < 1
  · have d : ¬ 0 < e.h1.len := by have e1 := unhide EL1; omega
    have no : Hid (¬ G) := hide (fun g => ((unhide D).1 g).2.1 g1)
    clear D g1
    go_wp2_with fail
    go_ret
    exact ⟨retB (b := false) ⟨fun h => (by cases h), fun h => absurd h (unhide no)⟩, unhide B⟩
  have d1 : 0 < e.h1.len := by have e1 := unhide EL1; omega
  go_wp2_with fail
  refine (unhide q1 _ (unhide B)).mono ?_
  rintro r w1 ⟨⟨v, rfl, hv⟩, hb⟩
  replace R := hide ((unhide R).keep hb)
  replace P := hide ((unhide P).keep hb)
  replace B := hide (bTr (unhide B) hb)
  have H1 := hide hv
  clear hb hv q1 c1 p0 p1 d1
  cases v
  case false =>
    have no : Hid (¬ G) := hide (fun g => by have := (unhide H1).2 ((unhide D).1 g).2.2.2.1; cases this)
    clear D
    go_wp2_with fail
    go_ret
    exact ⟨retB (b := false) ⟨fun h => (by cases h), fun h => absurd h (unhide no)⟩, unhide B⟩
  replace H1 := hide ((unhide H1).1 rfl)
  have c2 := (unhide R).at (o := 2) (v := .slice e.h2.a e.h2.len e.h2.cap) rfl
  have p0 := (unhide P).at (o := 0) (v := .map (some b1)) rfl
  have p1 := (unhide P).at (o := 1) (v := .map (some b2)) rfl
  by_cases g2 : e.t.f2.length < 1
  · have d : ¬ 0 < e.h2.len := by have e1 := unhide EL2; omega
    have no : Hid (¬ G) := hide (fun g => ((unhide D).1 g).2.2.1 g2)
    clear D g2
    go_wp2_with fail
    go_ret
    exact ⟨retB (b := false) ⟨fun h => (by cases h), fun h => absurd h (unhide no)⟩, unhide B⟩
  have d2 : 0 < e.h2.len := by have e1 := unhide EL2; omega
  go_wp2_with fail
  refine (unhide q2 _ (unhide B)).mono ?_
  rintro r w2 ⟨⟨v, rfl, hv⟩, hb⟩
  replace R := hide ((unhide R).keep hb)
  replace P := hide ((unhide P).keep hb)
  replace B := hide (bTr (unhide B) hb)
  have H2 := hide hv
  clear hb hv q2 c2 p0 p1 d2
  cases v
  case false =>
    have no : Hid (¬ G) := hide (fun g => by have := (unhide H2).2 ((unhide D).1 g).2.2.2.2.1; cases this)
    clear D
    go_wp2_with fail
    go_ret
    exact ⟨retB (b := false) ⟨fun h => (by cases h), fun h => absurd h (unhide no)⟩, unhide B⟩
  replace H2 := hide ((unhide H2).1 rfl)
  have c3 := (unhide R).at (o := 3) (v := .slice e.h3.a e.h3.len e.h3.cap) rfl
  have p0 := (unhide P).at (o := 0) (v := .map (some b1)) rfl
  have p1 := (unhide P).at (o := 1) (v := .map (some b2)) rfl
  go_wp2_with fail
  refine (unhide q3 _ (unhide B)).mono ?_
  rintro r w3 ⟨⟨v, rfl, hv⟩, hb⟩
  have HV := hide hv
  replace B := hide (bTr (unhide B) hb)
  have DD : Hid (G ↔ PA) := hide ((unhide D).trans ⟨fun h => h.2.2.2.2.2, fun h => ⟨g0, g1, g2, unhide H1, unhide H2, h⟩⟩)
  clear hb hv q3 c3 p0 p1 g0 g1 g2 D H1 H2
  go_wp2_with fail
  go_ret
  exact ⟨retB (b := v) ((unhide HV).trans (unhide DD).symm), unhide B⟩
set_option maxHeartbeats 1000000 in
theorem isThingName_n (e : ThingTypeE) (w : World) (hn : ThingTypeN e.t) :
    Calls Try.prog 118 #[.agg #[.string e.t.f0, .slice e.h1.a e.h1.len e.h1.cap, .slice e.h2.a e.h2.len e.h2.cap]] w fun r w' => RetB r (goodName e.t.f0 = true ∧ ¬ e.t.f0 = actB) ∧ Below w.heap.size w w' := by
  have q1 := hide (fun w => iGoodName_any e.t.f0 hn.o0 w)
  have B := hide (bAl (Below.refl w.heap.size w) (.cells #[.string e.t.f0, .slice e.h1.a e.h1.len e.h1.cap, .slice e.h2.a e.h2.len e.h2.cap] 90))
  have R := hide (RowIs.new w #[.string e.t.f0, .slice e.h1.a e.h1.len e.h1.cap, .slice e.h2.a e.h2.len e.h2.cap] 90)
  clear hn
  cases g : goodName e.t.f0
  · rw [g] at q1
    have no : Hid (¬ (goodName e.t.f0 = true ∧ ¬ e.t.f0 = actB)) := hide (fun h => by rw [g] at h; cases h.1)
    generalize hG : (false = true ∧ ¬ e.t.f0 = actB) = G
    go_enter Try.func118, Try.ntmps118
    go_wp2_with fail
    refine (unhide q1 _).mono ?_
    rintro r w1 ⟨rfl, hb⟩
    replace B := hide (bTr (unhide B) hb)
    have no' : Hid (¬ G) := hide (by rw [← hG]; rintro ⟨h, _⟩; cases h)
    have no := no'
    clear hb no' hG
    go_wp2_with fail
    go_ret
    exact ⟨retB (b := false) ⟨fun h => (by cases h), fun h => absurd h (unhide no)⟩, unhide B⟩
  · rw [g] at q1
    generalize hG : (true = true ∧ ¬ e.t.f0 = actB) = G
    have D : Hid (G ↔ ¬ e.t.f0 = actB) := hide (by rw [← hG]; simp)
    clear hG g
    go_enter Try.func118, Try.ntmps118
    go_wp2_with fail
    refine (unhide q1 _).mono ?_
    rintro r w1 ⟨rfl, hb⟩
    replace R := hide ((unhide R).keep hb)
    replace B := hide (bTr (unhide B) hb)
    have c0 := (unhide R).at (o := 0) (v := .string e.t.f0) rfl
    clear hb
    by_cases ha : e.t.f0 = actB
    · have no : Hid (¬ G) := hide (fun h => (unhide D).1 h ha)
      have d : (ByteArray.toList e.t.f0 == [65, 99, 116, 105, 111, 110]) = true := by rw [ha]; unfold actB; rw [ByteArray.toList_eq]; rfl
      clear D ha
      go_wp2_with fail
      go_ret
      exact ⟨retB (b := false) ⟨fun h => (by cases h), fun h => absurd h (unhide no)⟩, unhide B⟩
    · have yes := hide ((unhide D).2 ha)
      have d : (ByteArray.toList e.t.f0 == [65, 99, 116, 105, 111, 110]) = false := by have h := str_neY ha; unfold actB at h; rw [ByteArray.toList_eq ⟨#[65, 99, 116, 105, 111, 110]⟩] at h; exact h
      clear D ha
      go_wp2_with fail
      go_ret
      exact ⟨retB (b := true) ⟨fun _ => unhide yes, fun _ => rfl⟩, unhide B⟩
set_option maxHeartbeats 1000000 in
theorem notGood_tname  (P : ThingTypeE → Prop) (b : Nat) (x : ThingTypeE) (w : World) (hc : w.cell? ⟨b, 0, none⟩ = some (.func (.func 118) #[] #[]))
    (q : ∀ w' : World, Below w.heap.size w w' → Calls Try.prog 118 #[.agg #[.string x.t.f0, .slice x.h1.a x.h1.len x.h1.cap, .slice x.h2.a x.h2.len x.h2.cap]] w' fun e w'' => RetB e (P x) ∧ Below w'.heap.size w' w'') :
    Calls Try.prog 142 #[.agg #[.string x.t.f0, .slice x.h1.a x.h1.len x.h1.cap, .slice x.h2.a x.h2.len x.h2.cap], .pointer (some ⟨b, 0, none⟩)] w fun e w' => RetB e (¬ P x) ∧ Below w.heap.size w w' := by
  have HB := hide (bAl (Below.refl w.heap.size w) (.cells #[.string x.t.f0, .slice x.h1.a x.h1.len x.h1.cap, .slice x.h2.a x.h2.len x.h2.cap] 90))
  have zb : b < w.heap.size := World.block_lt_of_cell? w ⟨b, 0, none⟩ hc
  have Q := hide (q _ (unhide HB))
  clear q
  go_enter Try.func142, Try.ntmps142
  go_wp2_with fail
  refine (unhide Q).mono ?_
  rintro e w1 ⟨⟨v, rfl, hv⟩, hb⟩
  have B1 := hide (bTr (unhide HB) hb)
  have HV := hide hv
  clear hb HB Q hc hv
  go_wp2_with fail
  go_ret
  refine ⟨retB (b := !v) ?_, unhide B1⟩
  rw [← unhide HV]; cases v <;> simp
set_option maxHeartbeats 1000000 in
theorem indexBad_tname  (P : ThingTypeE → Prop) (b : Nat) (h : Hd) (l : List ThingTypeE) (w : World) (hl : l.length ≤ maxLen) (hs : SqThingTypeE w 0 h l) (hc : w.cell? ⟨b, 0, none⟩ = some (.func (.func 118) #[] #[]))
    (q : ∀ x ∈ l, ∀ w' : World, Below w.heap.size w w' → Calls Try.prog 118 #[.agg #[.string x.t.f0, .slice x.h1.a x.h1.len x.h1.cap, .slice x.h2.a x.h2.len x.h2.cap]] w' fun e w'' => RetB e (P x) ∧ Below w'.heap.size w' w'') :
    Calls Try.prog 160 #[.slice h.a h.len h.cap, .func (.func 142) #[] #[.pointer (some ⟨b, 0, none⟩)]] w fun e w' => (∃ v : Int, e = .returned (.int .i64 v) ∧ (0 ≤ v ↔ ¬ ∀ x ∈ l, P x)) ∧ Below w.heap.size w w' := by
  have HS := hide hs
  have zb : b < w.heap.size := World.block_lt_of_cell? w ⟨b, 0, none⟩ hc
  have HC := hide (fun (w' : World) (h : Below w.heap.size w w') => cellB (w' := w') h zb hc)
  have HQ := hide q
  have HL := hide hs.1
  have hlm : h.len ≤ maxLen := by rw [hs.1]; exact hl
  unfold maxLen at hlm
  obtain ⟨a, len, cap⟩ := h
  simp only at hlm HL
  clear hs hc q hl
  go_enter Try.func160, Try.ntmps160
  go_wp2_with fail
  go_loopw [8] (fun i w' => ∃ k : Nat, k ≤ len ∧ i = .int .i64 k ∧ Hid (Below w.heap.size w w') ∧ Hid (∀ i (h : i < l.length), i < k → P l[i])) (fun i _ => len - (Go.RowKit.intOf i).toNat)
  case atStart => exact ⟨0, Nat.zero_le _, rfl, hide (Below.refl _ _), hide (fun i _ h => absurd h (Nat.not_lt_zero _))⟩
  case round =>
    obtain ⟨k, hk, rfl, hb, hA⟩ := hrel
    by_cases hlt : k < len
    · have hk' : k < l.length := by have := unhide HL; omega
      obtain ⟨bb_, off, e0, hrow⟩ := ((unhide HS).keep (unhide hb)).at hlt
      simp only at e0
      subst e0
      have c0 := hrow.c0 k hk'
      have c1 := hrow.c1 k hk'
      have c2 := hrow.c2 k hk'
      have zk := hrow.z
      have q := hide (notGood_tname  P b l[k] wr (unhide HC _ (unhide hb)) (fun w' h => unhide HQ _ (List.getElem_mem hk') w' (bTr (unhide hb) h)))
      have eS : Hid (P l[k] → ∀ i (h : i < l.length), i < k + 1 → P l[i]) := hide (fun g i hi h1 => by
        rcases Nat.lt_or_ge i k with h2 | h2
        · exact unhide hA i hi h2
        · obtain rfl : i = k := by omega
          exact g)
      have eN : Hid (¬ P l[k] → ¬ ∀ x ∈ l, P x) := hide (fun g h => g (h _ (List.getElem_mem hk')))
      clear hrow
      generalize l[k] = A at *
      go_wp2_with fail
      refine (unhide q).mono ?_
      rintro e w1 ⟨⟨v, rfl, hv⟩, hb1⟩
      have B1 := hide (bTr (unhide hb) hb1)
      have HV := hide hv
      clear hb1 q hv c0 c1 c2
      cases v
      · have S := hide (unhide eS (Classical.byContradiction fun h => by have := (unhide HV).2 h; cases this))
        clear eS eN HV
        go_wp2_with fail
        exact ⟨⟨k + 1, by omega, by go_num, B1, S⟩, by simp [Go.RowKit.intOf]; omega⟩
      · have N := hide (unhide eN ((unhide HV).1 rfl))
        clear eS eN HV
        go_wp2_with fail
        go_ret
        exact ⟨⟨_, rfl, fun _ => unhide N, fun _ => by omega⟩, unhide B1⟩
    · have S : Hid (∀ x ∈ l, P x) := hide (fun x hx => by
        obtain ⟨i, hi, rfl⟩ := List.getElem_of_mem hx
        exact unhide hA i hi (by have := unhide HL; omega))
      go_wp2_with fail
      go_ret
      exact ⟨⟨_, rfl, fun h => absurd h (by decide), fun h => absurd (unhide S) h⟩, unhide hb⟩
set_option maxHeartbeats 1000000 in
theorem goodList_tname  (P : ThingTypeE → Prop) (most : Int) (h : Hd) (l : List ThingTypeE) (w : World) (hl : l.length ≤ maxLen) (hs : SqThingTypeE w 0 h l)
    (q : ∀ x ∈ l, ∀ w' : World, Below w.heap.size w w' → Calls Try.prog 118 #[.agg #[.string x.t.f0, .slice x.h1.a x.h1.len x.h1.cap, .slice x.h2.a x.h2.len x.h2.cap]] w' fun e w'' => RetB e (P x) ∧ Below w'.heap.size w' w'') :
    Calls Try.prog 117 #[.slice h.a h.len h.cap, .int .i64 most, .func (.func 118) #[] #[]] w fun e w' => RetB e ((l.length : Int) ≤ most ∧ ∀ x ∈ l, P x) ∧ Below w.heap.size w w' := by
  have HS := hide hs
  have HQ := hide q
  have HL := hide hs.1
  have HM := hide hl
  clear hs q hl
  by_cases h200 : (h.len : Int) ≤ most
  · obtain ⟨W, hW⟩ : ∃ W, W = w.alloc (.cells #[.func (.func 118) #[] #[]] 148) := ⟨_, rfl⟩
    have R := show RowIs W w.heap.size #[.func (.func 118) #[] #[]] 148 by rw [hW]; exact RowIs.new _ _ _
    have B := hide (show Below w.heap.size w W by rw [hW]; exact bAl (Below.refl _ _) _)
    have HW := hide hW.symm
    clear hW
    have q := hide (fun hc => indexBad_tname  P w.heap.size h l W (unhide HM) ((unhide HS).keep (unhide B)) hc (fun x hx w' h => unhide HQ x hx w' (bTr (unhide B) h)))
    have q2 : Hid (Calls Try.prog 141 #[.slice h.a h.len h.cap, .func (.func 142) #[] #[.pointer (some ⟨w.heap.size, 0, none⟩)]] W fun e w' => (∃ v : Bool, e = .returned (.bool v) ∧ (v = true ↔ ¬ ∀ x ∈ l, P x)) ∧ Below W.heap.size W w') := hide (by
      have q := hide (unhide q (R.at (o := 0) rfl))
      go_enter Try.func141, Try.ntmps141
      go_wp2_with fail
      refine (unhide q).mono ?_
      rintro e w1 ⟨⟨v, rfl, hv⟩, hb⟩
      have HV := hide hv
      clear hv
      go_wp2_with fail
      go_ret
      exact ⟨⟨decide (0 ≤ v), rfl, by rw [decide_eq_true_iff]; exact unhide HV⟩, hb⟩)
    have hst := @run_store Try.prog
    clear q R
    go_enter Try.func117, Try.ntmps117
    go_wp2_with fail
    rw [unhide HW]
    refine (unhide q2).mono ?_
    rintro e w1 ⟨⟨v, rfl, hv⟩, hb⟩
    have HV := hide hv
    have B1 := hide (bTr (unhide B) hb)
    clear hv hb q2 hst HW B
    go_wp2_with fail
    go_ret
    have hle := unhide HL
    refine ⟨retB (b := !v) ⟨fun h => ?_, fun h => ?_⟩, unhide B1⟩
    · cases v
      · refine ⟨by omega, ?_⟩
        have := unhide HV
        exact Classical.byContradiction fun hn => by have := this.2 hn; cases this
      · cases h
    · cases v
      · rfl
      · exact absurd h.2 ((unhide HV).1 rfl)
  · have d : decide ((h.len : Int) ≤ most) = false := by simpa using h200
    have B := hide (bAl (Below.refl w.heap.size w) (.cells #[.func (.func 118) #[] #[]] 148))
    have hst := @run_store Try.prog
    go_enter Try.func117, Try.ntmps117
    go_wp2_with fail
    go_ret
    have hle := unhide HL
    exact ⟨retB (b := false) ⟨fun h => (by cases h), fun h => absurd h.1 (by omega)⟩, unhide B⟩
def InOrd (x : PolSchemaT) : Prop := (x.f0.length ≤ 20 ∧ ∀ t ∈ x.f0, goodName t.f0 = true ∧ ¬ t.f0 = actB) ∧ RisN' (x.f0.map (·.f0)) ∧ x.f1.length ≤ 20 ∧ RisN' (x.f1.map (·.f0))
set_option maxRecDepth 20000 in
set_option maxHeartbeats 2000000 in
theorem inOrder_n (e : PolSchemaE) (w : World) (hn : PolSchemaN e.t) (hm : PolSchemaM w 0 e) :
    Calls Try.prog 89 #[.agg #[.slice e.h0.a e.h0.len e.h0.cap, .slice e.h1.a e.h1.len e.h1.cap]] w fun r w' => RetB r (InOrd e.t) ∧ Below w.heap.size w w' := by
  obtain ⟨⟨xt, xa⟩, h0, h1⟩ := e
  obtain ⟨st, sa, _⟩ := hm
  obtain ⟨ot, lt', oa, la', _⟩ := hn
  simp only at st sa ot lt' oa la' ⊢
  obtain ⟨lt, et, st⟩ := st
  obtain ⟨la, ea, sa⟩ := sa
  have ot' : ∀ e ∈ lt, ThingTypeN e.t := fun e he => ot _ (by rw [← et]; exact List.mem_map_of_mem he)
  have ll : lt.length ≤ maxLen := by rw [← et] at lt'; simpa using lt'
  have lla : la.length ≤ maxLen := by rw [← ea] at la'; simpa using la'
  have q1 := hide (fun (w' : World) (hb : Below w.heap.size w w') => goodList_tname (fun e => goodName e.t.f0 = true ∧ ¬ e.t.f0 = actB) 20 h0 lt w' ll (st.keep hb) (fun x hx w'' _ => isThingName_n x w'' (ot' x hx)))
  have q2 := hide (fun (w' : World) (hb : Below w.heap.size w w') => byName_tt h0 lt w' ll (st.keep hb))
  have q3 := hide (fun (w' : World) (hb : Below w.heap.size w w') => byName_at h1 la w' lla (sa.keep hb))
  have D : Hid (InOrd ⟨xt, xa⟩ ↔ ((lt.length ≤ 20 ∧ ∀ x ∈ lt, goodName x.t.f0 = true ∧ ¬ x.t.f0 = actB) ∧ (∀ i (h : i + 1 < lt.length), cmpT lt[i].t.f0.data.toList lt[i + 1].t.f0.data.toList < 0) ∧ la.length ≤ 20 ∧ ∀ i (h : i + 1 < la.length), cmpT la[i].t.f0.data.toList la[i + 1].t.f0.data.toList < 0)) := hide (by
    rw [← et, ← ea]; unfold InOrd RisN'; simp)
  generalize InOrd ⟨xt, xa⟩ = G at D ⊢
  have HA := hide sa.1
  have P := hide (RowIs.new w #[.slice h0.a h0.len h0.cap, .slice h1.a h1.len h1.cap] 53)
  have B := hide (bAl (Below.refl w.heap.size w) (.cells #[.slice h0.a h0.len h0.cap, .slice h1.a h1.len h1.cap] 53))
  clear st sa ot lt' oa la' et ea ot' ll lla
  go_enter Try.func89, Try.ntmps89
  go_wp2_with fail
  refine (unhide q1 _ (unhide B)).mono ?_
  rintro r w1 ⟨⟨v, rfl, hv⟩, hb⟩
  replace P := hide ((unhide P).keep hb)
  replace B := hide (bTr (unhide B) hb)
  have H1 := hide hv
  clear hb hv q1
  cases v
  case false =>
    have no : Hid (¬ G) := hide (fun g => by have k := ((unhide D).1 g).1; have := (unhide H1).2 ⟨by exact_mod_cast k.1, k.2⟩; cases this)
    clear D
    go_wp2_with fail
    go_ret
    exact ⟨retB (b := false) ⟨fun h => (by cases h), fun h => absurd h (unhide no)⟩, unhide B⟩
  replace H1 := hide ((unhide H1).1 rfl)
  have p0 := (unhide P).at (o := 0) (v := .slice h0.a h0.len h0.cap) rfl
  go_wp2_with fail
  refine (unhide q2 _ (unhide B)).mono ?_
  rintro r w2 ⟨⟨v, rfl, hv⟩, hb⟩
  replace P := hide ((unhide P).keep hb)
  replace B := hide (bTr (unhide B) hb)
  have H2 := hide hv
  clear hb hv q2 p0
  cases v
  case false =>
    have no : Hid (¬ G) := hide (fun g => by have := (unhide H2).2 ((unhide D).1 g).2.1; cases this)
    clear D
    go_wp2_with fail
    go_ret
    exact ⟨retB (b := false) ⟨fun h => (by cases h), fun h => absurd h (unhide no)⟩, unhide B⟩
  replace H2 := hide ((unhide H2).1 rfl)
  have p1 := (unhide P).at (o := 1) (v := .slice h1.a h1.len h1.cap) rfl
  by_cases g20 : (h1.len : Int) ≤ 20
  case neg =>
    have no : Hid (¬ G) := hide (fun g => g20 (by have := ((unhide D).1 g).2.2.1; have := unhide HA; omega))
    have d : decide ((h1.len : Int) ≤ 20) = false := by simp; omega
    clear D g20
    go_wp2_with fail
    go_ret
    exact ⟨retB (b := false) ⟨fun h => (by cases h), fun h => absurd h (unhide no)⟩, unhide B⟩
  have d : decide ((h1.len : Int) ≤ 20) = true := decide_eq_true g20
  go_wp2_with fail
  refine (unhide q3 _ (unhide B)).mono ?_
  rintro r w3 ⟨⟨v, rfl, hv⟩, hb⟩
  have HV := hide hv
  replace B := hide (bTr (unhide B) hb)
  have DD : Hid (G ↔ ∀ i (h : i + 1 < la.length), cmpT la[i].t.f0.data.toList la[i + 1].t.f0.data.toList < 0) := hide ((unhide D).trans ⟨fun h => h.2.2.2, fun h => ⟨⟨by have := (unhide H1).1; omega, (unhide H1).2⟩, unhide H2, by have := unhide HA; omega, h⟩⟩)
  clear hb hv q3 p1 d g20 D H1 H2
  go_wp2_with fail
  go_ret
  exact ⟨retB (b := v) ((unhide HV).trans (unhide DD).symm), unhide B⟩
set_option maxHeartbeats 1000000 in
theorem notGood_gtt (b1 b2 : Nat) (P : ThingTypeE → Prop) (b : Nat) (x : ThingTypeE) (w : World) (hc : w.cell? ⟨b, 0, none⟩ = some (.func (.func 91) #[.agg #[.map (some b1), .map (some b2)]] #[]))
    (q : ∀ w' : World, Below w.heap.size w w' → Calls Try.prog 91 #[.agg #[.map (some b1), .map (some b2)], .agg #[.string x.t.f0, .slice x.h1.a x.h1.len x.h1.cap, .slice x.h2.a x.h2.len x.h2.cap]] w' fun e w'' => RetB e (P x) ∧ Below w'.heap.size w' w'') :
    Calls Try.prog 142 #[.agg #[.string x.t.f0, .slice x.h1.a x.h1.len x.h1.cap, .slice x.h2.a x.h2.len x.h2.cap], .pointer (some ⟨b, 0, none⟩)] w fun e w' => RetB e (¬ P x) ∧ Below w.heap.size w w' := by
  have HB := hide (bAl (Below.refl w.heap.size w) (.cells #[.string x.t.f0, .slice x.h1.a x.h1.len x.h1.cap, .slice x.h2.a x.h2.len x.h2.cap] 90))
  have zb : b < w.heap.size := World.block_lt_of_cell? w ⟨b, 0, none⟩ hc
  have Q := hide (q _ (unhide HB))
  clear q
  go_enter Try.func142, Try.ntmps142
  go_wp2_with fail
  refine (unhide Q).mono ?_
  rintro e w1 ⟨⟨v, rfl, hv⟩, hb⟩
  have B1 := hide (bTr (unhide HB) hb)
  have HV := hide hv
  clear hb HB Q hc hv
  go_wp2_with fail
  go_ret
  refine ⟨retB (b := !v) ?_, unhide B1⟩
  rw [← unhide HV]; cases v <;> simp
set_option maxHeartbeats 1000000 in
theorem indexBad_gtt (b1 b2 : Nat) (P : ThingTypeE → Prop) (b : Nat) (h : Hd) (l : List ThingTypeE) (w : World) (hl : l.length ≤ maxLen) (hs : SqThingTypeE w 0 h l) (hc : w.cell? ⟨b, 0, none⟩ = some (.func (.func 91) #[.agg #[.map (some b1), .map (some b2)]] #[]))
    (q : ∀ x ∈ l, ∀ w' : World, Below w.heap.size w w' → Calls Try.prog 91 #[.agg #[.map (some b1), .map (some b2)], .agg #[.string x.t.f0, .slice x.h1.a x.h1.len x.h1.cap, .slice x.h2.a x.h2.len x.h2.cap]] w' fun e w'' => RetB e (P x) ∧ Below w'.heap.size w' w'') :
    Calls Try.prog 160 #[.slice h.a h.len h.cap, .func (.func 142) #[] #[.pointer (some ⟨b, 0, none⟩)]] w fun e w' => (∃ v : Int, e = .returned (.int .i64 v) ∧ (0 ≤ v ↔ ¬ ∀ x ∈ l, P x)) ∧ Below w.heap.size w w' := by
  have HS := hide hs
  have zb : b < w.heap.size := World.block_lt_of_cell? w ⟨b, 0, none⟩ hc
  have HC := hide (fun (w' : World) (h : Below w.heap.size w w') => cellB (w' := w') h zb hc)
  have HQ := hide q
  have HL := hide hs.1
  have hlm : h.len ≤ maxLen := by rw [hs.1]; exact hl
  unfold maxLen at hlm
  obtain ⟨a, len, cap⟩ := h
  simp only at hlm HL
  clear hs hc q hl
  go_enter Try.func160, Try.ntmps160
  go_wp2_with fail
  go_loopw [8] (fun i w' => ∃ k : Nat, k ≤ len ∧ i = .int .i64 k ∧ Hid (Below w.heap.size w w') ∧ Hid (∀ i (h : i < l.length), i < k → P l[i])) (fun i _ => len - (Go.RowKit.intOf i).toNat)
  case atStart => exact ⟨0, Nat.zero_le _, rfl, hide (Below.refl _ _), hide (fun i _ h => absurd h (Nat.not_lt_zero _))⟩
  case round =>
    obtain ⟨k, hk, rfl, hb, hA⟩ := hrel
    by_cases hlt : k < len
    · have hk' : k < l.length := by have := unhide HL; omega
      obtain ⟨bb_, off, e0, hrow⟩ := ((unhide HS).keep (unhide hb)).at hlt
      simp only at e0
      subst e0
      have c0 := hrow.c0 k hk'
      have c1 := hrow.c1 k hk'
      have c2 := hrow.c2 k hk'
      have zk := hrow.z
      have q := hide (notGood_gtt b1 b2 P b l[k] wr (unhide HC _ (unhide hb)) (fun w' h => unhide HQ _ (List.getElem_mem hk') w' (bTr (unhide hb) h)))
      have eS : Hid (P l[k] → ∀ i (h : i < l.length), i < k + 1 → P l[i]) := hide (fun g i hi h1 => by
        rcases Nat.lt_or_ge i k with h2 | h2
        · exact unhide hA i hi h2
        · obtain rfl : i = k := by omega
          exact g)
      have eN : Hid (¬ P l[k] → ¬ ∀ x ∈ l, P x) := hide (fun g h => g (h _ (List.getElem_mem hk')))
      clear hrow
      generalize l[k] = A at *
      go_wp2_with fail
      refine (unhide q).mono ?_
      rintro e w1 ⟨⟨v, rfl, hv⟩, hb1⟩
      have B1 := hide (bTr (unhide hb) hb1)
      have HV := hide hv
      clear hb1 q hv c0 c1 c2
      cases v
      · have S := hide (unhide eS (Classical.byContradiction fun h => by have := (unhide HV).2 h; cases this))
        clear eS eN HV
        go_wp2_with fail
        exact ⟨⟨k + 1, by omega, by go_num, B1, S⟩, by simp [Go.RowKit.intOf]; omega⟩
      · have N := hide (unhide eN ((unhide HV).1 rfl))
        clear eS eN HV
        go_wp2_with fail
        go_ret
        exact ⟨⟨_, rfl, fun _ => unhide N, fun _ => by omega⟩, unhide B1⟩
    · have S : Hid (∀ x ∈ l, P x) := hide (fun x hx => by
        obtain ⟨i, hi, rfl⟩ := List.getElem_of_mem hx
        exact unhide hA i hi (by have := unhide HL; omega))
      go_wp2_with fail
      go_ret
      exact ⟨⟨_, rfl, fun h => absurd h (by decide), fun h => absurd (unhide S) h⟩, unhide hb⟩
set_option maxHeartbeats 1000000 in
theorem goodList_gtt (b1 b2 : Nat) (P : ThingTypeE → Prop) (most : Int) (h : Hd) (l : List ThingTypeE) (w : World) (hl : l.length ≤ maxLen) (hs : SqThingTypeE w 0 h l)
    (q : ∀ x ∈ l, ∀ w' : World, Below w.heap.size w w' → Calls Try.prog 91 #[.agg #[.map (some b1), .map (some b2)], .agg #[.string x.t.f0, .slice x.h1.a x.h1.len x.h1.cap, .slice x.h2.a x.h2.len x.h2.cap]] w' fun e w'' => RetB e (P x) ∧ Below w'.heap.size w' w'') :
    Calls Try.prog 117 #[.slice h.a h.len h.cap, .int .i64 most, .func (.func 91) #[.agg #[.map (some b1), .map (some b2)]] #[]] w fun e w' => RetB e ((l.length : Int) ≤ most ∧ ∀ x ∈ l, P x) ∧ Below w.heap.size w w' := by
  have HS := hide hs
  have HQ := hide q
  have HL := hide hs.1
  have HM := hide hl
  clear hs q hl
  by_cases h200 : (h.len : Int) ≤ most
  · obtain ⟨W, hW⟩ : ∃ W, W = w.alloc (.cells #[.func (.func 91) #[.agg #[.map (some b1), .map (some b2)]] #[]] 148) := ⟨_, rfl⟩
    have R := show RowIs W w.heap.size #[.func (.func 91) #[.agg #[.map (some b1), .map (some b2)]] #[]] 148 by rw [hW]; exact RowIs.new _ _ _
    have B := hide (show Below w.heap.size w W by rw [hW]; exact bAl (Below.refl _ _) _)
    have HW := hide hW.symm
    clear hW
    have q := hide (fun hc => indexBad_gtt b1 b2 P w.heap.size h l W (unhide HM) ((unhide HS).keep (unhide B)) hc (fun x hx w' h => unhide HQ x hx w' (bTr (unhide B) h)))
    have q2 : Hid (Calls Try.prog 141 #[.slice h.a h.len h.cap, .func (.func 142) #[] #[.pointer (some ⟨w.heap.size, 0, none⟩)]] W fun e w' => (∃ v : Bool, e = .returned (.bool v) ∧ (v = true ↔ ¬ ∀ x ∈ l, P x)) ∧ Below W.heap.size W w') := hide (by
      have q := hide (unhide q (R.at (o := 0) rfl))
      go_enter Try.func141, Try.ntmps141
      go_wp2_with fail
      refine (unhide q).mono ?_
      rintro e w1 ⟨⟨v, rfl, hv⟩, hb⟩
      have HV := hide hv
      clear hv
      go_wp2_with fail
      go_ret
      exact ⟨⟨decide (0 ≤ v), rfl, by rw [decide_eq_true_iff]; exact unhide HV⟩, hb⟩)
    have hst := @run_store Try.prog
    clear q R
    go_enter Try.func117, Try.ntmps117
    go_wp2_with fail
    rw [unhide HW]
    refine (unhide q2).mono ?_
    rintro e w1 ⟨⟨v, rfl, hv⟩, hb⟩
    have HV := hide hv
    have B1 := hide (bTr (unhide B) hb)
    clear hv hb q2 hst HW B
    go_wp2_with fail
    go_ret
    have hle := unhide HL
    refine ⟨retB (b := !v) ⟨fun h => ?_, fun h => ?_⟩, unhide B1⟩
    · cases v
      · refine ⟨by omega, ?_⟩
        have := unhide HV
        exact Classical.byContradiction fun hn => by have := this.2 hn; cases this
      · cases h
    · cases v
      · rfl
      · exact absurd h.2 ((unhide HV).1 rfl)
  · have d : decide ((h.len : Int) ≤ most) = false := by simpa using h200
    have B := hide (bAl (Below.refl w.heap.size w) (.cells #[.func (.func 91) #[.agg #[.map (some b1), .map (some b2)]] #[]] 148))
    have hst := @run_store Try.prog
    go_enter Try.func117, Try.ntmps117
    go_wp2_with fail
    go_ret
    have hle := unhide HL
    exact ⟨retB (b := false) ⟨fun h => (by cases h), fun h => absurd h.1 (by omega)⟩, unhide B⟩
set_option maxHeartbeats 400000 in
theorem every_gtt (b1 b2 : Nat) (P : ThingTypeE → Prop) (h : Hd) (l : List ThingTypeE) (w : World) (hl : l.length ≤ maxLen) (hs : SqThingTypeE w 0 h l)
    (q : ∀ x ∈ l, ∀ w' : World, Below w.heap.size w w' → Calls Try.prog 91 #[.agg #[.map (some b1), .map (some b2)], .agg #[.string x.t.f0, .slice x.h1.a x.h1.len x.h1.cap, .slice x.h2.a x.h2.len x.h2.cap]] w' fun e w'' => RetB e (P x) ∧ Below w'.heap.size w' w'') :
    Calls Try.prog 90 #[.slice h.a h.len h.cap, .func (.func 91) #[.agg #[.map (some b1), .map (some b2)]] #[]] w fun e w' => RetB e (∀ x ∈ l, P x) ∧ Below w.heap.size w w' := by
  have Q := hide (goodList_gtt b1 b2 P h.len h l w hl hs q)
  have HL := hide hs.1
  clear hs q hl
  go_enter Try.func90, Try.ntmps90
  go_wp2_with fail
  refine (unhide Q).mono ?_
  rintro e w1 ⟨⟨v, rfl, hv⟩, hb⟩
  have HV := hide hv
  clear hv Q
  go_wp2_with fail
  go_ret
  exact ⟨retB (b := v) ((unhide HV).trans ⟨fun h => h.2, fun h => ⟨by have := unhide HL; omega, h⟩⟩), hb⟩
set_option maxHeartbeats 1000000 in
theorem notGood_gat (b1 b2 : Nat) (P : ActionTypeE → Prop) (b : Nat) (x : ActionTypeE) (w : World) (hc : w.cell? ⟨b, 0, none⟩ = some (.func (.func 93) #[.agg #[.map (some b1), .map (some b2)]] #[]))
    (q : ∀ w' : World, Below w.heap.size w w' → Calls Try.prog 93 #[.agg #[.map (some b1), .map (some b2)], .agg #[.string x.t.f0, .slice x.h1.a x.h1.len x.h1.cap, .slice x.h2.a x.h2.len x.h2.cap, .slice x.h3.a x.h3.len x.h3.cap]] w' fun e w'' => RetB e (P x) ∧ Below w'.heap.size w' w'') :
    Calls Try.prog 154 #[.agg #[.string x.t.f0, .slice x.h1.a x.h1.len x.h1.cap, .slice x.h2.a x.h2.len x.h2.cap, .slice x.h3.a x.h3.len x.h3.cap], .pointer (some ⟨b, 0, none⟩)] w fun e w' => RetB e (¬ P x) ∧ Below w.heap.size w w' := by
  have HB := hide (bAl (Below.refl w.heap.size w) (.cells #[.string x.t.f0, .slice x.h1.a x.h1.len x.h1.cap, .slice x.h2.a x.h2.len x.h2.cap, .slice x.h3.a x.h3.len x.h3.cap] 96))
  have zb : b < w.heap.size := World.block_lt_of_cell? w ⟨b, 0, none⟩ hc
  have Q := hide (q _ (unhide HB))
  clear q
  go_enter Try.func154, Try.ntmps154
  go_wp2_with fail
  refine (unhide Q).mono ?_
  rintro e w1 ⟨⟨v, rfl, hv⟩, hb⟩
  have B1 := hide (bTr (unhide HB) hb)
  have HV := hide hv
  clear hb HB Q hc hv
  go_wp2_with fail
  go_ret
  refine ⟨retB (b := !v) ?_, unhide B1⟩
  rw [← unhide HV]; cases v <;> simp
set_option maxHeartbeats 1000000 in
theorem indexBad_gat (b1 b2 : Nat) (P : ActionTypeE → Prop) (b : Nat) (h : Hd) (l : List ActionTypeE) (w : World) (hl : l.length ≤ maxLen) (hs : SqActionTypeE w 0 h l) (hc : w.cell? ⟨b, 0, none⟩ = some (.func (.func 93) #[.agg #[.map (some b1), .map (some b2)]] #[]))
    (q : ∀ x ∈ l, ∀ w' : World, Below w.heap.size w w' → Calls Try.prog 93 #[.agg #[.map (some b1), .map (some b2)], .agg #[.string x.t.f0, .slice x.h1.a x.h1.len x.h1.cap, .slice x.h2.a x.h2.len x.h2.cap, .slice x.h3.a x.h3.len x.h3.cap]] w' fun e w'' => RetB e (P x) ∧ Below w'.heap.size w' w'') :
    Calls Try.prog 167 #[.slice h.a h.len h.cap, .func (.func 154) #[] #[.pointer (some ⟨b, 0, none⟩)]] w fun e w' => (∃ v : Int, e = .returned (.int .i64 v) ∧ (0 ≤ v ↔ ¬ ∀ x ∈ l, P x)) ∧ Below w.heap.size w w' := by
  have HS := hide hs
  have zb : b < w.heap.size := World.block_lt_of_cell? w ⟨b, 0, none⟩ hc
  have HC := hide (fun (w' : World) (h : Below w.heap.size w w') => cellB (w' := w') h zb hc)
  have HQ := hide q
  have HL := hide hs.1
  have hlm : h.len ≤ maxLen := by rw [hs.1]; exact hl
  unfold maxLen at hlm
  obtain ⟨a, len, cap⟩ := h
  simp only at hlm HL
  clear hs hc q hl
  go_enter Try.func167, Try.ntmps167
  go_wp2_with fail
  go_loopw [8] (fun i w' => ∃ k : Nat, k ≤ len ∧ i = .int .i64 k ∧ Hid (Below w.heap.size w w') ∧ Hid (∀ i (h : i < l.length), i < k → P l[i])) (fun i _ => len - (Go.RowKit.intOf i).toNat)
  case atStart => exact ⟨0, Nat.zero_le _, rfl, hide (Below.refl _ _), hide (fun i _ h => absurd h (Nat.not_lt_zero _))⟩
  case round =>
    obtain ⟨k, hk, rfl, hb, hA⟩ := hrel
    by_cases hlt : k < len
    · have hk' : k < l.length := by have := unhide HL; omega
      obtain ⟨bb_, off, e0, hrow⟩ := ((unhide HS).keep (unhide hb)).at hlt
      simp only at e0
      subst e0
      have c0 := hrow.c0 k hk'
      have c1 := hrow.c1 k hk'
      have c2 := hrow.c2 k hk'
      have c3 := hrow.c3 k hk'
      have zk := hrow.z
      have q := hide (notGood_gat b1 b2 P b l[k] wr (unhide HC _ (unhide hb)) (fun w' h => unhide HQ _ (List.getElem_mem hk') w' (bTr (unhide hb) h)))
      have eS : Hid (P l[k] → ∀ i (h : i < l.length), i < k + 1 → P l[i]) := hide (fun g i hi h1 => by
        rcases Nat.lt_or_ge i k with h2 | h2
        · exact unhide hA i hi h2
        · obtain rfl : i = k := by omega
          exact g)
      have eN : Hid (¬ P l[k] → ¬ ∀ x ∈ l, P x) := hide (fun g h => g (h _ (List.getElem_mem hk')))
      clear hrow
      generalize l[k] = A at *
      go_wp2_with fail
      refine (unhide q).mono ?_
      rintro e w1 ⟨⟨v, rfl, hv⟩, hb1⟩
      have B1 := hide (bTr (unhide hb) hb1)
      have HV := hide hv
      clear hb1 q hv c0 c1 c2 c3
      cases v
      · have S := hide (unhide eS (Classical.byContradiction fun h => by have := (unhide HV).2 h; cases this))
        clear eS eN HV
        go_wp2_with fail
        exact ⟨⟨k + 1, by omega, by go_num, B1, S⟩, by simp [Go.RowKit.intOf]; omega⟩
      · have N := hide (unhide eN ((unhide HV).1 rfl))
        clear eS eN HV
        go_wp2_with fail
        go_ret
        exact ⟨⟨_, rfl, fun _ => unhide N, fun _ => by omega⟩, unhide B1⟩
    · have S : Hid (∀ x ∈ l, P x) := hide (fun x hx => by
        obtain ⟨i, hi, rfl⟩ := List.getElem_of_mem hx
        exact unhide hA i hi (by have := unhide HL; omega))
      go_wp2_with fail
      go_ret
      exact ⟨⟨_, rfl, fun h => absurd h (by decide), fun h => absurd (unhide S) h⟩, unhide hb⟩
set_option maxHeartbeats 1000000 in
theorem goodList_gat (b1 b2 : Nat) (P : ActionTypeE → Prop) (most : Int) (h : Hd) (l : List ActionTypeE) (w : World) (hl : l.length ≤ maxLen) (hs : SqActionTypeE w 0 h l)
    (q : ∀ x ∈ l, ∀ w' : World, Below w.heap.size w w' → Calls Try.prog 93 #[.agg #[.map (some b1), .map (some b2)], .agg #[.string x.t.f0, .slice x.h1.a x.h1.len x.h1.cap, .slice x.h2.a x.h2.len x.h2.cap, .slice x.h3.a x.h3.len x.h3.cap]] w' fun e w'' => RetB e (P x) ∧ Below w'.heap.size w' w'') :
    Calls Try.prog 126 #[.slice h.a h.len h.cap, .int .i64 most, .func (.func 93) #[.agg #[.map (some b1), .map (some b2)]] #[]] w fun e w' => RetB e ((l.length : Int) ≤ most ∧ ∀ x ∈ l, P x) ∧ Below w.heap.size w w' := by
  have HS := hide hs
  have HQ := hide q
  have HL := hide hs.1
  have HM := hide hl
  clear hs q hl
  by_cases h200 : (h.len : Int) ≤ most
  · obtain ⟨W, hW⟩ : ∃ W, W = w.alloc (.cells #[.func (.func 93) #[.agg #[.map (some b1), .map (some b2)]] #[]] 150) := ⟨_, rfl⟩
    have R := show RowIs W w.heap.size #[.func (.func 93) #[.agg #[.map (some b1), .map (some b2)]] #[]] 150 by rw [hW]; exact RowIs.new _ _ _
    have B := hide (show Below w.heap.size w W by rw [hW]; exact bAl (Below.refl _ _) _)
    have HW := hide hW.symm
    clear hW
    have q := hide (fun hc => indexBad_gat b1 b2 P w.heap.size h l W (unhide HM) ((unhide HS).keep (unhide B)) hc (fun x hx w' h => unhide HQ x hx w' (bTr (unhide B) h)))
    have q2 : Hid (Calls Try.prog 153 #[.slice h.a h.len h.cap, .func (.func 154) #[] #[.pointer (some ⟨w.heap.size, 0, none⟩)]] W fun e w' => (∃ v : Bool, e = .returned (.bool v) ∧ (v = true ↔ ¬ ∀ x ∈ l, P x)) ∧ Below W.heap.size W w') := hide (by
      have q := hide (unhide q (R.at (o := 0) rfl))
      go_enter Try.func153, Try.ntmps153
      go_wp2_with fail
      refine (unhide q).mono ?_
      rintro e w1 ⟨⟨v, rfl, hv⟩, hb⟩
      have HV := hide hv
      clear hv
      go_wp2_with fail
      go_ret
      exact ⟨⟨decide (0 ≤ v), rfl, by rw [decide_eq_true_iff]; exact unhide HV⟩, hb⟩)
    have hst := @run_store Try.prog
    clear q R
    go_enter Try.func126, Try.ntmps126
    go_wp2_with fail
    rw [unhide HW]
    refine (unhide q2).mono ?_
    rintro e w1 ⟨⟨v, rfl, hv⟩, hb⟩
    have HV := hide hv
    have B1 := hide (bTr (unhide B) hb)
    clear hv hb q2 hst HW B
    go_wp2_with fail
    go_ret
    have hle := unhide HL
    refine ⟨retB (b := !v) ⟨fun h => ?_, fun h => ?_⟩, unhide B1⟩
    · cases v
      · refine ⟨by omega, ?_⟩
        have := unhide HV
        exact Classical.byContradiction fun hn => by have := this.2 hn; cases this
      · cases h
    · cases v
      · rfl
      · exact absurd h.2 ((unhide HV).1 rfl)
  · have d : decide ((h.len : Int) ≤ most) = false := by simpa using h200
    have B := hide (bAl (Below.refl w.heap.size w) (.cells #[.func (.func 93) #[.agg #[.map (some b1), .map (some b2)]] #[]] 150))
    have hst := @run_store Try.prog
    go_enter Try.func126, Try.ntmps126
    go_wp2_with fail
    go_ret
    have hle := unhide HL
    exact ⟨retB (b := false) ⟨fun h => (by cases h), fun h => absurd h.1 (by omega)⟩, unhide B⟩
set_option maxHeartbeats 400000 in
theorem every_gat (b1 b2 : Nat) (P : ActionTypeE → Prop) (h : Hd) (l : List ActionTypeE) (w : World) (hl : l.length ≤ maxLen) (hs : SqActionTypeE w 0 h l)
    (q : ∀ x ∈ l, ∀ w' : World, Below w.heap.size w w' → Calls Try.prog 93 #[.agg #[.map (some b1), .map (some b2)], .agg #[.string x.t.f0, .slice x.h1.a x.h1.len x.h1.cap, .slice x.h2.a x.h2.len x.h2.cap, .slice x.h3.a x.h3.len x.h3.cap]] w' fun e w'' => RetB e (P x) ∧ Below w'.heap.size w' w'') :
    Calls Try.prog 92 #[.slice h.a h.len h.cap, .func (.func 93) #[.agg #[.map (some b1), .map (some b2)]] #[]] w fun e w' => RetB e (∀ x ∈ l, P x) ∧ Below w.heap.size w w' := by
  have Q := hide (goodList_gat b1 b2 P h.len h l w hl hs q)
  have HL := hide hs.1
  clear hs q hl
  go_enter Try.func92, Try.ntmps92
  go_wp2_with fail
  refine (unhide Q).mono ?_
  rintro e w1 ⟨⟨v, rfl, hv⟩, hb⟩
  have HV := hide hv
  clear hv Q
  go_wp2_with fail
  go_ret
  exact ⟨retB (b := v) ((unhide HV).trans ⟨fun h => h.2, fun h => ⟨by have := unhide HL; omega, h⟩⟩), hb⟩
end Go.Proofs.Ytkfbecelfkbkkaa.V
