/- OIa, OIb, one behind the other. -/
import Derived.Test.YtfbncneeimikcaaGreatJ17
import Derived.Test.YtfbncneeimikcaaGreatJ20
import Derived.BigQuiet
/- impl: goodPerms, goodRole, names that rise, setOf, has. -/
namespace Go.Proofs.YtfbncneeimikcaaGreat.V
set_option linter.unusedSimpArgs false
set_option linter.unusedVariables false
open Go.RowKit Go.Maps

theorem RetB.t' {e : Ending} {p : Prop} (h : RetB e p) (hp : p) : e = .returned (.bool true) := by obtain ⟨b, rfl, hb⟩ := h; rw [hb.2 hp]
set_option maxHeartbeats 1000000 in
theorem notGood_nam  (P : ByteArray → Prop) (b : Nat) (x : ByteArray) (w : World) (hc : w.cell? ⟨b, 0, none⟩ = some (.func (.func 100) #[] #[]))
    (q : ∀ w' : World, Below w.heap.size w w' → Calls Tryz.prog 100 #[.string x] w' fun e w'' => RetB e (P x) ∧ Below w'.heap.size w' w'') :
    Calls Tryz.prog 139 #[.string x, .pointer (some ⟨b, 0, none⟩)] w fun e w' => RetB e (¬ P x) ∧ Below w.heap.size w w' := by
  have HB := hide (Below.refl w.heap.size w)
  have zb : b < w.heap.size := World.block_lt_of_cell? w ⟨b, 0, none⟩ hc
  have Q := hide (q _ (unhide HB))
  clear q
  go_enter Tryz.func139, Tryz.ntmps139
  go_wp2_with fail
  refine (unhide Q).mono ?_
  rintro e w1 ⟨⟨v, rfl, hv⟩, hb⟩
  have B1 := hide (bTr (unhide HB) hb)
  have HV := hide hv
  clear hb HB Q hc hv
  go_wp2_with fail
  go_ret
  refine ⟨retB (b := !v) ?_, unhide B1⟩
  rw [← unhide HV]; cases v <;> simp
set_option maxHeartbeats 1000000 in
theorem indexBad_nam  (P : ByteArray → Prop) (b : Nat) (h : Hd) (l : List ByteArray) (w : World) (hl : l.length ≤ maxLen) (hs : SqS w 0 h l) (hc : w.cell? ⟨b, 0, none⟩ = some (.func (.func 100) #[] #[]))
    (q : ∀ x ∈ l, ∀ w' : World, Below w.heap.size w w' → Calls Tryz.prog 100 #[.string x] w' fun e w'' => RetB e (P x) ∧ Below w'.heap.size w' w'') :
    Calls Tryz.prog 148 #[.slice h.a h.len h.cap, .func (.func 139) #[] #[.pointer (some ⟨b, 0, none⟩)]] w fun e w' => (∃ v : Int, e = .returned (.int .i64 v) ∧ (0 ≤ v ↔ ¬ ∀ x ∈ l, P x)) ∧ Below w.heap.size w w' := by
  have HS := hide hs
  have zb : b < w.heap.size := World.block_lt_of_cell? w ⟨b, 0, none⟩ hc
  have HC := hide (fun (w' : World) (h : Below w.heap.size w w') => cellB (w' := w') h zb hc)
  have HQ := hide q
  have HL := hide hs.1
  have hlm : h.len ≤ maxLen := by rw [hs.1]; exact hl
  unfold maxLen at hlm
  obtain ⟨a, len, cap⟩ := h
  simp only at hlm HL
  clear hs hc q hl
  go_enter Tryz.func148, Tryz.ntmps148
  go_wp2_with fail
  go_loopw [8] (fun i w' => ∃ k : Nat, k ≤ len ∧ i = .int .i64 k ∧ Hid (Below w.heap.size w w') ∧ Hid (∀ i (h : i < l.length), i < k → P l[i])) (fun i _ => len - (Go.RowKit.intOf i).toNat)
  case atStart => exact ⟨0, Nat.zero_le _, rfl, hide (Below.refl _ _), hide (fun i _ h => absurd h (Nat.not_lt_zero _))⟩
  case round =>
    obtain ⟨k, hk, rfl, hb, hA⟩ := hrel
    by_cases hlt : k < len
    · have hk' : k < l.length := by have := unhide HL; omega
      obtain ⟨bb_, off, e0, hrow⟩ := ((unhide HS).keep (unhide hb)).sl.at hlt
      simp only at e0
      subst e0
      have c0 := hrow.c k hk'
      have zk := hrow.z
      have q := hide (notGood_nam  P b l[k] wr (unhide HC _ (unhide hb)) (fun w' h => unhide HQ _ (List.getElem_mem hk') w' (bTr (unhide hb) h)))
      have eS : Hid (P l[k] → ∀ i (h : i < l.length), i < k + 1 → P l[i]) := hide (fun g i hi h1 => by
        rcases Nat.lt_or_ge i k with h2 | h2
        · exact unhide hA i hi h2
        · obtain rfl : i = k := by omega
          exact g)
      have eN : Hid (¬ P l[k] → ¬ ∀ x ∈ l, P x) := hide (fun g h => g (h _ (List.getElem_mem hk')))
      clear hrow
      generalize l[k] = A at *
      go_wp2_with fail
      refine (unhide q).mono ?_
      rintro e w1 ⟨⟨v, rfl, hv⟩, hb1⟩
      have B1 := hide (bTr (unhide hb) hb1)
      have HV := hide hv
      clear hb1 q hv c0
      cases v
      · have S := hide (unhide eS (Classical.byContradiction fun h => by have := (unhide HV).2 h; cases this))
        clear eS eN HV
        go_wp2_with fail
        exact ⟨⟨k + 1, by omega, by go_num, B1, S⟩, by simp [Go.RowKit.intOf]; omega⟩
      · have N := hide (unhide eN ((unhide HV).1 rfl))
        clear eS eN HV
        go_wp2_with fail
        go_ret
        exact ⟨⟨_, rfl, fun _ => unhide N, fun _ => by omega⟩, unhide B1⟩
    · have S : Hid (∀ x ∈ l, P x) := hide (fun x hx => by
        obtain ⟨i, hi, rfl⟩ := List.getElem_of_mem hx
        exact unhide hA i hi (by have := unhide HL; omega))
      go_wp2_with fail
      go_ret
      exact ⟨⟨_, rfl, fun h => absurd h (by decide), fun h => absurd (unhide S) h⟩, unhide hb⟩
set_option maxHeartbeats 1000000 in
theorem goodList_nam  (P : ByteArray → Prop) (most : Int) (h : Hd) (l : List ByteArray) (w : World) (hl : l.length ≤ maxLen) (hs : SqS w 0 h l)
    (q : ∀ x ∈ l, ∀ w' : World, Below w.heap.size w w' → Calls Tryz.prog 100 #[.string x] w' fun e w'' => RetB e (P x) ∧ Below w'.heap.size w' w'') :
    Calls Tryz.prog 121 #[.slice h.a h.len h.cap, .int .i64 most, .func (.func 100) #[] #[]] w fun e w' => RetB e ((l.length : Int) ≤ most ∧ ∀ x ∈ l, P x) ∧ Below w.heap.size w w' := by
  have HS := hide hs
  have HQ := hide q
  have HL := hide hs.1
  have HM := hide hl
  clear hs q hl
  by_cases h200 : (h.len : Int) ≤ most
  · obtain ⟨W, hW⟩ : ∃ W, W = w.alloc (.cells #[.func (.func 100) #[] #[]] 104) := ⟨_, rfl⟩
    have R := show RowIs W w.heap.size #[.func (.func 100) #[] #[]] 104 by rw [hW]; exact RowIs.new _ _ _
    have B := hide (show Below w.heap.size w W by rw [hW]; exact bAl (Below.refl _ _) _)
    have HW := hide hW.symm
    clear hW
    have q := hide (fun hc => indexBad_nam  P w.heap.size h l W (unhide HM) ((unhide HS).keep (unhide B)) hc (fun x hx w' h => unhide HQ x hx w' (bTr (unhide B) h)))
    have q2 : Hid (Calls Tryz.prog 138 #[.slice h.a h.len h.cap, .func (.func 139) #[] #[.pointer (some ⟨w.heap.size, 0, none⟩)]] W fun e w' => (∃ v : Bool, e = .returned (.bool v) ∧ (v = true ↔ ¬ ∀ x ∈ l, P x)) ∧ Below W.heap.size W w') := hide (by
      have q := hide (unhide q (R.at (o := 0) rfl))
      go_enter Tryz.func138, Tryz.ntmps138
      go_wp2_with fail
      refine (unhide q).mono ?_
      rintro e w1 ⟨⟨v, rfl, hv⟩, hb⟩
      have HV := hide hv
      clear hv
      go_wp2_with fail
      go_ret
      exact ⟨⟨decide (0 ≤ v), rfl, by rw [decide_eq_true_iff]; exact unhide HV⟩, hb⟩)
    have hst := @run_store Tryz.prog
    clear q R
    go_enter Tryz.func121, Tryz.ntmps121
    go_wp2_with fail
    rw [unhide HW]
    refine (unhide q2).mono ?_
    rintro e w1 ⟨⟨v, rfl, hv⟩, hb⟩
    have HV := hide hv
    have B1 := hide (bTr (unhide B) hb)
    clear hv hb q2 hst HW B
    go_wp2_with fail
    go_ret
    have hle := unhide HL
    refine ⟨retB (b := !v) ⟨fun h => ?_, fun h => ?_⟩, unhide B1⟩
    · cases v
      · refine ⟨by omega, ?_⟩
        have := unhide HV
        exact Classical.byContradiction fun hn => by have := this.2 hn; cases this
      · cases h
    · cases v
      · rfl
      · exact absurd h.2 ((unhide HV).1 rfl)
  · have d : decide ((h.len : Int) ≤ most) = false := by simpa using h200
    have B := hide (bAl (Below.refl w.heap.size w) (.cells #[.func (.func 100) #[] #[]] 104))
    have hst := @run_store Tryz.prog
    go_enter Tryz.func121, Tryz.ntmps121
    go_wp2_with fail
    go_ret
    have hle := unhide HL
    exact ⟨retB (b := false) ⟨fun h => (by cases h), fun h => absurd h.1 (by omega)⟩, unhide B⟩
set_option maxRecDepth 20000 in
set_option maxHeartbeats 4000000 in
theorem rising_str  (c : ByteArray → ByteArray → Int) (h : Hd) (l : List ByteArray) (w : World) (hl : l.length ≤ maxLen) (hs : SqS w 0 h l)
    (qq : ∀ x ∈ l, ∀ y ∈ l, ∀ w' : World, Below w.heap.size w w' → Calls Tryz.prog 104 #[.string x, .string y] w' fun e w'' => e = .returned (.int .i64 (c x y)) ∧ Below w'.heap.size w' w'') :
    Calls Tryz.prog 107 #[.slice h.a h.len h.cap, .func (.func 104) #[] #[]] w fun e w' => RetB e (∀ i (h : i + 1 < l.length), c l[i] l[i + 1] < 0) ∧ Below w.heap.size w w' := by
  have HS := hide hs
  have HQ := hide qq
  have HL := hide hs.1
  have hlm : h.len ≤ maxLen := by rw [hs.1]; exact hl
  unfold maxLen at hlm
  obtain ⟨a, len, cap⟩ := h
  simp only at hlm HL
  clear hs qq hl
  go_enter Tryz.func107, Tryz.ntmps107
  go_wp2
  go_loopw [5] (fun i w' => ∃ k : Nat, 1 ≤ k ∧ (k ≤ len ∨ k = 1) ∧ i = .int .i64 k ∧ Hid (Below w.heap.size w w') ∧ Hid (∀ i (h : i + 1 < l.length), i + 1 < k → c l[i] l[i + 1] < 0)) (fun i _ => len - (Go.RowKit.intOf i).toNat)
  case atStart => exact ⟨1, Nat.le_refl _, .inr rfl, rfl, hide (Below.refl _ _), hide (fun i _ h => absurd h (by omega))⟩
  case round =>
    obtain ⟨k, hk1, hk, rfl, hb, hris⟩ := hrel
    by_cases hlt : k < len
    · obtain ⟨j, rfl⟩ : ∃ j, k = j + 1 := ⟨k - 1, by omega⟩
      have hk' : j + 1 < l.length := by have := unhide HL; omega
      have hj : j < l.length := by omega
      obtain ⟨bb_, off, e0, hrow⟩ := ((unhide HS).keep (unhide hb)).sl.at hlt
      simp only at e0
      subst e0
      have p0 := hrow.c (j + 1) hk'
      have o0 := hrow.c j hj
      have zk := hrow.z
      have qc := hide (fun (q : Kept wr) => unhide HQ l[j] (List.getElem_mem hj) l[j + 1] (List.getElem_mem hk') q.w (bTr (unhide hb) q.h))
      have stepR : Hid (c l[j] l[j + 1] < 0 → ∀ i (h : i + 1 < l.length), i + 1 < j + 1 + 1 → c l[i] l[i + 1] < 0) := hide (fun g i hi h1 => by
        rcases Nat.lt_or_ge i j with h2 | h2
        · exact unhide hris i hi (by omega)
        · obtain rfl : i = j := by omega
          exact g)
      have noR : Hid (¬ c l[j] l[j + 1] < 0 → ¬ ∀ i (h : i + 1 < l.length), c l[i] l[i + 1] < 0) := hide (fun g h => g (h j hk'))
      clear hrow hris
      generalize c l[j] l[j + 1] = cc at qc stepR noR
      generalize l[j + 1] = P at p0 qc
      generalize l[j] = Q at o0 qc
      have ne : Nonempty (Kept wr) := ⟨⟨wr, Below.refl _ _⟩⟩
      have x0 := kept_cell zk p0
      have y0 := kept_cell zk o0
      have ej : IntKind.i64.wrap ((j : Int) + 1 - 1) = (j : Int) := by rw [IntKind.wrap_i64]; omega
      have i0 : (0 : Int) ≤ (j : Int) := by omega
      have i1 : (j : Int) < (len : Int) := by omega
      have i2 : (j : Int) + 1 < (len : Int) := by omega
      clear p0 o0 zk
      by_cases hc : cc < 0
      · have dc : decide (0 ≤ cc) = false := by simp; omega
        replace stepR := hide (unhide stepR hc)
        clear hc noR
        go_wp2_with fail
        refine wp_region_kept (by kernel_rfl) (by kernel_rfl) ?_
        repeat (first
          | go_big_quiet_step ((go_at_call 104; exact kept_call (unhide qc _)))
          | quiet_step ((go_at_call 104; exact kept_call (unhide qc _))))
        refine wpQuiet_nil ?_
        rintro _ ⟨q, rfl⟩
        go_wp2_with fail
        exact ⟨⟨j + 1 + 1, by omega, by omega, by go_num, hide (bTr (unhide hb) q.h), stepR⟩, by simp [Go.RowKit.intOf]; omega⟩
      · have dc : decide (0 ≤ cc) = true := by simp; omega
        replace noR := hide (unhide noR hc)
        clear hc stepR
        go_wp2_with fail
        refine wp_region_kept (by kernel_rfl) (by kernel_rfl) ?_
        repeat (first
          | go_big_quiet_step ((go_at_call 104; exact kept_call (unhide qc _)))
          | quiet_step ((go_at_call 104; exact kept_call (unhide qc _))))
        refine wpQuiet_nil ?_
        rintro _ ⟨q, rfl⟩
        go_wp2_with fail
        go_ret
        exact ⟨retB (b := false) ⟨fun h => (by cases h), fun h => absurd h (unhide noR)⟩, bTr (unhide hb) q.h⟩
    · have hR : Hid (∀ i (h : i + 1 < l.length), c l[i] l[i + 1] < 0) := hide (fun i h => unhide hris i h (by have := unhide HL; omega))
      clear hris
      go_wp2_with fail
      go_ret
      exact ⟨retB (b := true) ⟨fun _ => unhide hR, fun _ => rfl⟩, unhide hb⟩
theorem risStr_n (h : Hd) (l : List ByteArray) (w : World) (hl : l.length ≤ maxLen) (hs : SqS w 0 h l) :
    Calls Tryz.prog 107 #[.slice h.a h.len h.cap, .func (.func 104) #[] #[]] w fun e w' => RetB e (RisT l) ∧ Below w.heap.size w w' :=
  rising_str (fun x y => cmpT x.data.toList y.data.toList) h l w hl hs (fun x _ y _ w'' _ => (stringsCompare_any x y w'').mono fun _ _ ⟨a, b⟩ => ⟨a, by subst b; exact Below.refl _ _⟩)
set_option maxHeartbeats 1000000 in
theorem goodPerms_n (h : Hd) (l : List ByteArray) (w : World) (hl : l.length ≤ maxLen) (ho : ∀ q ∈ l, ByteArray.size q ≤ maxLen) (hs : SqS w 0 h l) :
    Calls Tryz.prog 101 #[.slice h.a h.len h.cap] w fun r w' => RetB r (GPm l) ∧ Below w.heap.size w w' := by
  have q1 := hide (goodList_nam (fun s => goodName s = true) 20 h l w hl hs (fun x hx w' _ => (iGoodName_any x (ho x hx) w').mono fun _ _ ⟨a, b⟩ => ⟨⟨_, a, Iff.rfl⟩, b⟩))
  have q2 := hide (fun (w' : World) (hb : Below w.heap.size w w') => risStr_n h l w' hl (hs.keep hb))
  have D : Hid (GPm l ↔ (((l.length : Int) ≤ 20 ∧ ∀ p ∈ l, goodName p = true) ∧ RisT l)) := hide (by unfold GPm; constructor <;> (rintro ⟨⟨h1, h2⟩, h3⟩; exact ⟨⟨by omega, h2⟩, h3⟩))
  generalize GPm l = G at D ⊢
  generalize ((l.length : Int) ≤ 20 ∧ ∀ p ∈ l, goodName p = true) = P at D q1
  clear hl ho hs
  go_enter Tryz.func101, Tryz.ntmps101
  go_wp2_with fail
  refine (unhide q1).mono ?_
  rintro r w1 ⟨⟨v1, rfl, hv1⟩, hb⟩
  have B := hide hb
  have H1 := hide hv1
  clear hb hv1 q1
  cases v1
  case false =>
    have no : Hid (¬ G) := hide (fun g => by have := (unhide H1).2 ((unhide D).1 g).1; cases this)
    clear D q2
    go_wp2_with fail
    go_ret
    exact ⟨retB (b := false) ⟨fun h => (by cases h), fun h => absurd h (unhide no)⟩, unhide B⟩
  replace H1 := hide ((unhide H1).1 rfl)
  go_wp2_with fail
  refine (unhide q2 _ (unhide B)).mono ?_
  rintro r w2 ⟨⟨v2, rfl, hv2⟩, hb⟩
  replace B := hide (bTr (unhide B) hb)
  have H2 := hide hv2
  clear hb hv2 q2
  go_wp2_with fail
  go_ret
  exact ⟨retB (b := v2) ((unhide H2).trans ⟨fun h => (unhide D).2 ⟨unhide H1, h⟩, fun h => ((unhide D).1 h).2⟩), unhide B⟩
set_option maxHeartbeats 1000000 in
theorem goodRole_n (e : RoleE) (w : World) (hn : RoleN e.t) (hm : RoleM w 0 e) :
    Calls Tryz.prog 79 #[.agg #[.string e.t.f0, .slice e.h1.a e.h1.len e.h1.cap, .slice e.h2.a e.h2.len e.h2.cap]] w fun r w' => RetB r (GRo e.t) ∧ Below w.heap.size w w' := by
  have q1 := hide (iGoodName_any e.t.f0 hn.o0)
  have B := hide (bAl (Below.refl w.heap.size w) (.cells #[.string e.t.f0, .slice e.h1.a e.h1.len e.h1.cap, .slice e.h2.a e.h2.len e.h2.cap] 103))
  have R := hide (RowIs.new w #[.string e.t.f0, .slice e.h1.a e.h1.len e.h1.cap, .slice e.h2.a e.h2.len e.h2.cap] 103)
  have q2 := hide (fun (w' : World) (hb : Below w.heap.size w w') => goodPerms_n e.h2 e.t.f2 w' hn.l2 hn.o2 (hm.m2.keep hb))
  have D : Hid (GRo e.t ↔ (goodName e.t.f0 = true ∧ GPm e.t.f2)) := hide Iff.rfl
  generalize GRo e.t = G at D ⊢
  generalize GPm e.t.f2 = P at D q2
  clear hn hm
  go_enter Tryz.func79, Tryz.ntmps79
  go_wp2_with fail
  refine (unhide q1 _).mono ?_
  rintro r w1 ⟨rfl, hb⟩
  replace B := hide (bTr (unhide B) hb)
  replace R := hide ((unhide R).keep hb)
  clear hb q1
  generalize goodName e.t.f0 = g at D ⊢
  cases g
  case false =>
    have no : Hid (¬ G) := hide (fun g => by have := ((unhide D).1 g).1; cases this)
    clear D q2 R
    go_wp2_with fail
    go_ret
    exact ⟨retB (b := false) ⟨fun h => (by cases h), fun h => absurd h (unhide no)⟩, unhide B⟩
  have c2 := (unhide R).at (o := 2) (v := .slice e.h2.a e.h2.len e.h2.cap) rfl
  go_wp2_with fail
  refine (unhide q2 _ (unhide B)).mono ?_
  rintro r w2 ⟨⟨v2, rfl, hv2⟩, hb⟩
  replace B := hide (bTr (unhide B) hb)
  have H2 := hide hv2
  clear hb hv2 q2 c2 R
  go_wp2_with fail
  go_ret
  exact ⟨retB (b := v2) ((unhide H2).trans ⟨fun h => (unhide D).2 ⟨by trivial, h⟩, fun h => ((unhide D).1 h).2⟩), unhide B⟩
set_option maxHeartbeats 400000 in
theorem roName_any (x : RoleE) (w : World) : Calls Tryz.prog 81 #[.agg #[.string x.t.f0, .slice x.h1.a x.h1.len x.h1.cap, .slice x.h2.a x.h2.len x.h2.cap]] w fun r w' => r = .returned (.string x.t.f0) ∧ Below w.heap.size w w' := by
  go_enter Tryz.func81, Tryz.ntmps81
  go_wp2_with fail
  go_ret
  exact ⟨rfl, bAl (Below.refl _ _) _⟩
set_option maxRecDepth 20000 in
set_option maxHeartbeats 2000000 in
theorem roBy_any (bc : Nat) (P Q : RoleE) (w : World) (hc : w.cell? ⟨bc, 0, none⟩ = some (.func (.func 81) #[] #[])) :
    Calls Tryz.prog 103 #[.agg #[.string P.t.f0, .slice P.h1.a P.h1.len P.h1.cap, .slice P.h2.a P.h2.len P.h2.cap], .agg #[.string Q.t.f0, .slice Q.h1.a Q.h1.len Q.h1.cap, .slice Q.h2.a Q.h2.len Q.h2.cap], .pointer (some ⟨bc, 0, none⟩)] w fun r w' => r = .returned (.int .i64 (cmpT P.t.f0.data.toList Q.t.f0.data.toList)) ∧ Below w.heap.size w w' := by
  have zb : bc < w.heap.size := World.block_lt_of_cell? w ⟨bc, 0, none⟩ hc
  obtain ⟨W, hW⟩ : ∃ W, W = (w.alloc (.cells #[.string P.t.f0, .slice P.h1.a P.h1.len P.h1.cap, .slice P.h2.a P.h2.len P.h2.cap] 103)).alloc (.cells #[.string Q.t.f0, .slice Q.h1.a Q.h1.len Q.h1.cap, .slice Q.h2.a Q.h2.len Q.h2.cap] 103) := ⟨_, rfl⟩
  have bW : Below w.heap.size w W := by rw [hW]; exact bAl (bAl (Below.refl _ _) _) _
  have rP : RowIs W w.heap.size #[.string P.t.f0, .slice P.h1.a P.h1.len P.h1.cap, .slice P.h2.a P.h2.len P.h2.cap] 103 := by rw [hW]; exact (RowIs.new w _ _).keep (bAl (Below.refl _ _) _)
  have rQ : RowIs W (w.heap.size + 1) #[.string Q.t.f0, .slice Q.h1.a Q.h1.len Q.h1.cap, .slice Q.h2.a Q.h2.len Q.h2.cap] 103 := by rw [hW]; have := RowIs.new (w.alloc (.cells #[.string P.t.f0, .slice P.h1.a P.h1.len P.h1.cap, .slice P.h2.a P.h2.len P.h2.cap] 103)) #[.string Q.t.f0, .slice Q.h1.a Q.h1.len Q.h1.cap, .slice Q.h2.a Q.h2.len Q.h2.cap] 103; simpa using this
  have HW := hide hW
  have x0 := kept_cell (W := W) (p := ⟨w.heap.size, 0, none⟩) rP.lt (rP.at (o := 0) (v := .string P.t.f0) rfl)
  have y0 := kept_cell (W := W) (p := ⟨w.heap.size + 1, 0, none⟩) rQ.lt (rQ.at (o := 0) (v := .string Q.t.f0) rfl)
  have x1 := kept_cell (W := W) (p := ⟨w.heap.size, 1, none⟩) rP.lt (rP.at (o := 1) (v := .slice P.h1.a P.h1.len P.h1.cap) rfl)
  have y1 := kept_cell (W := W) (p := ⟨w.heap.size + 1, 1, none⟩) rQ.lt (rQ.at (o := 1) (v := .slice Q.h1.a Q.h1.len Q.h1.cap) rfl)
  have x2 := kept_cell (W := W) (p := ⟨w.heap.size, 2, none⟩) rP.lt (rP.at (o := 2) (v := .slice P.h2.a P.h2.len P.h2.cap) rfl)
  have y2 := kept_cell (W := W) (p := ⟨w.heap.size + 1, 2, none⟩) rQ.lt (rQ.at (o := 2) (v := .slice Q.h2.a Q.h2.len Q.h2.cap) rfl)
  have z0 := kept_cell (W := W) (p := ⟨bc, 0, none⟩) (Nat.lt_of_lt_of_le zb bW.size) (cellB bW zb hc)
  have ne : Nonempty (Kept W) := ⟨⟨W, Below.refl _ _⟩⟩
  have qP := hide (fun (q : Kept W) => roName_any P q.w)
  have qQ := hide (fun (q : Kept W) => roName_any Q q.w)
  have qc := hide (fun (q : Kept W) => stringsCompare_any P.t.f0 Q.t.f0 q.w)
  have BW := hide bW
  generalize cmpT P.t.f0.data.toList Q.t.f0.data.toList = cc at qc ⊢
  clear hW hc bW rP rQ zb
  go_enter Tryz.func103, Tryz.ntmps103
  go_wp2_with fail
  rw [← unhide HW]
  refine wp_region_kept (by kernel_rfl) (by kernel_rfl) ?_
  repeat (first
    | go_big_quiet_step (first | (go_at_call 81; with_reducible exact kept_call (unhide qP _)) | (go_at_call 81; with_reducible exact kept_call (unhide qQ _)) | (go_at_call 104; exact kept_same (unhide qc _)))
    | quiet_step (first | (go_at_call 81; with_reducible exact kept_call (unhide qP _)) | (go_at_call 81; with_reducible exact kept_call (unhide qQ _)) | (go_at_call 104; exact kept_same (unhide qc _))))
  refine wpQuiet_nil ?_
  rintro _ ⟨q, rfl⟩
  go_wp2_with fail
  go_ret
  exact ⟨rfl, bTr (unhide BW) q.h⟩
set_option maxRecDepth 20000 in
set_option maxHeartbeats 4000000 in
theorem rising_roBy (bc : Nat) (c : RoleE → RoleE → Int) (h : Hd) (l : List RoleE) (w : World) (hl : l.length ≤ maxLen) (hs : SqRoleE w 0 h l)
    (qq : ∀ x ∈ l, ∀ y ∈ l, ∀ w' : World, Below w.heap.size w w' → Calls Tryz.prog 103 #[.agg #[.string x.t.f0, .slice x.h1.a x.h1.len x.h1.cap, .slice x.h2.a x.h2.len x.h2.cap], .agg #[.string y.t.f0, .slice y.h1.a y.h1.len y.h1.cap, .slice y.h2.a y.h2.len y.h2.cap], .pointer (some ⟨bc, 0, none⟩)] w' fun e w'' => e = .returned (.int .i64 (c x y)) ∧ Below w'.heap.size w' w'') :
    Calls Tryz.prog 102 #[.slice h.a h.len h.cap, .func (.func 103) #[] #[.pointer (some ⟨bc, 0, none⟩)]] w fun e w' => RetB e (∀ i (h : i + 1 < l.length), c l[i] l[i + 1] < 0) ∧ Below w.heap.size w w' := by
  have HS := hide hs
  have HQ := hide qq
  have HL := hide hs.1
  have hlm : h.len ≤ maxLen := by rw [hs.1]; exact hl
  unfold maxLen at hlm
  obtain ⟨a, len, cap⟩ := h
  simp only at hlm HL
  clear hs qq hl
  go_enter Tryz.func102, Tryz.ntmps102
  go_wp2
  go_loopw [5] (fun i w' => ∃ k : Nat, 1 ≤ k ∧ (k ≤ len ∨ k = 1) ∧ i = .int .i64 k ∧ Hid (Below w.heap.size w w') ∧ Hid (∀ i (h : i + 1 < l.length), i + 1 < k → c l[i] l[i + 1] < 0)) (fun i _ => len - (Go.RowKit.intOf i).toNat)
  case atStart => exact ⟨1, Nat.le_refl _, .inr rfl, rfl, hide (Below.refl _ _), hide (fun i _ h => absurd h (by omega))⟩
  case round =>
    obtain ⟨k, hk1, hk, rfl, hb, hris⟩ := hrel
    by_cases hlt : k < len
    · obtain ⟨j, rfl⟩ : ∃ j, k = j + 1 := ⟨k - 1, by omega⟩
      have hk' : j + 1 < l.length := by have := unhide HL; omega
      have hj : j < l.length := by omega
      obtain ⟨bb_, off, e0, hrow⟩ := ((unhide HS).keep (unhide hb)).at hlt
      simp only at e0
      subst e0
      have p0 := hrow.c0 (j + 1) hk'
      have p1 := hrow.c1 (j + 1) hk'
      have p2 := hrow.c2 (j + 1) hk'
      have o0 := hrow.c0 j hj
      have o1 := hrow.c1 j hj
      have o2 := hrow.c2 j hj
      have zk := hrow.z
      have qc := hide (fun (q : Kept wr) => unhide HQ l[j] (List.getElem_mem hj) l[j + 1] (List.getElem_mem hk') q.w (bTr (unhide hb) q.h))
      have stepR : Hid (c l[j] l[j + 1] < 0 → ∀ i (h : i + 1 < l.length), i + 1 < j + 1 + 1 → c l[i] l[i + 1] < 0) := hide (fun g i hi h1 => by
        rcases Nat.lt_or_ge i j with h2 | h2
        · exact unhide hris i hi (by omega)
        · obtain rfl : i = j := by omega
          exact g)
      have noR : Hid (¬ c l[j] l[j + 1] < 0 → ¬ ∀ i (h : i + 1 < l.length), c l[i] l[i + 1] < 0) := hide (fun g h => g (h j hk'))
      clear hrow hris
      generalize c l[j] l[j + 1] = cc at qc stepR noR
      generalize l[j + 1] = P at p0 p1 p2 qc
      generalize l[j] = Q at o0 o1 o2 qc
      have ne : Nonempty (Kept wr) := ⟨⟨wr, Below.refl _ _⟩⟩
      have x0 := kept_cell zk p0
      have y0 := kept_cell zk o0
      have x1 := kept_cell zk p1
      have y1 := kept_cell zk o1
      have x2 := kept_cell zk p2
      have y2 := kept_cell zk o2
      have ej : IntKind.i64.wrap ((j : Int) + 1 - 1) = (j : Int) := by rw [IntKind.wrap_i64]; omega
      have i0 : (0 : Int) ≤ (j : Int) := by omega
      have i1 : (j : Int) < (len : Int) := by omega
      have i2 : (j : Int) + 1 < (len : Int) := by omega
      clear p0 o0 p1 o1 p2 o2 zk
      by_cases hc : cc < 0
      · have dc : decide (0 ≤ cc) = false := by simp; omega
        replace stepR := hide (unhide stepR hc)
        clear hc noR
        go_wp2_with fail
        refine wp_region_kept (by kernel_rfl) (by kernel_rfl) ?_
        repeat (first
          | go_big_quiet_step ((go_at_call 103; exact kept_call (unhide qc _)))
          | quiet_step ((go_at_call 103; exact kept_call (unhide qc _))))
        refine wpQuiet_nil ?_
        rintro _ ⟨q, rfl⟩
        go_wp2_with fail
        exact ⟨⟨j + 1 + 1, by omega, by omega, by go_num, hide (bTr (unhide hb) q.h), stepR⟩, by simp [Go.RowKit.intOf]; omega⟩
      · have dc : decide (0 ≤ cc) = true := by simp; omega
        replace noR := hide (unhide noR hc)
        clear hc stepR
        go_wp2_with fail
        refine wp_region_kept (by kernel_rfl) (by kernel_rfl) ?_
        repeat (first
          | go_big_quiet_step ((go_at_call 103; exact kept_call (unhide qc _)))
          | quiet_step ((go_at_call 103; exact kept_call (unhide qc _))))
        refine wpQuiet_nil ?_
        rintro _ ⟨q, rfl⟩
        go_wp2_with fail
        go_ret
        exact ⟨retB (b := false) ⟨fun h => (by cases h), fun h => absurd h (unhide noR)⟩, bTr (unhide hb) q.h⟩
    · have hR : Hid (∀ i (h : i + 1 < l.length), c l[i] l[i + 1] < 0) := hide (fun i h => unhide hris i h (by have := unhide HL; omega))
      clear hris
      go_wp2_with fail
      go_ret
      exact ⟨retB (b := true) ⟨fun _ => unhide hR, fun _ => rfl⟩, unhide hb⟩
set_option maxHeartbeats 1000000 in
theorem byName_ro (h : Hd) (l : List RoleE) (w : World) (hl : l.length ≤ maxLen) (hs : SqRoleE w 0 h l) :
    Calls Tryz.prog 80 #[.slice h.a h.len h.cap, .func (.func 81) #[] #[]] w fun e w' => RetB e (∀ i (h : i + 1 < l.length), cmpT l[i].t.f0.data.toList l[i + 1].t.f0.data.toList < 0) ∧ Below w.heap.size w w' := by
  obtain ⟨W, hW⟩ : ∃ W, W = w.alloc (.cells #[.func (.func 81) #[] #[]] 141) := ⟨_, rfl⟩
  have bW : Below w.heap.size w W := by rw [hW]; exact bAl (Below.refl _ _) _
  have rW : RowIs W w.heap.size #[.func (.func 81) #[] #[]] 141 := by rw [hW]; exact RowIs.new w _ _
  have q := hide (rising_roBy w.heap.size (fun x y => cmpT x.t.f0.data.toList y.t.f0.data.toList) h l W hl (hs.keep bW) (fun x _ y _ w' hb => roBy_any w.heap.size x y w' ((rW.keep hb).at rfl)))
  have HW := hide hW.symm
  have B := hide bW
  clear hW hs hl bW rW
  go_enter Tryz.func80, Tryz.ntmps80
  go_wp2_with fail
  rw [unhide HW]
  refine (unhide q).mono ?_
  rintro e w1 ⟨⟨v, rfl, hv⟩, hb⟩
  have HV := hide hv
  have B1 := hide (bTr (unhide B) hb)
  clear hv hb q HW B
  go_wp2_with fail
  go_ret
  exact ⟨retB (b := v) (unhide HV), unhide B1⟩
open Classical in
/-- What a set of those that are P holds. -/
noncomputable def chM (P : ByteArray → Prop) : ByteArray → Option Value := fun x => if P x then some (.agg #[]) else none
theorem chM_some (P : ByteArray → Prop) (x : ByteArray) : (chM P x).isSome = true ↔ P x := by
  unfold chM
  by_cases h : P x
  · rw [if_pos h]; simp [h]
  · rw [if_neg h]; simp [h]
theorem chM_upd (P : ByteArray → Prop) (x : ByteArray) : updK (chM P) x (.agg #[]) = chM (fun y => P y ∨ y = x) := by
  funext y
  unfold updK chM
  by_cases h : y = x
  · simp [h]
  · by_cases hp : P y
    · simp [h, hp]
    · simp [h, hp]
theorem chM_congr {P Q : ByteArray → Prop} (h : ∀ x, P x ↔ Q x) : chM P = chM Q := by
  have : P = Q := funext fun x => propext (h x)
  rw [this]
theorem chM_none : chM (fun _ => False) = fun _ => none := by funext x; unfold chM; simp
set_option maxHeartbeats 1000000 in
theorem setOf_n (h : Hd) (l : List ByteArray) (w : World) (hl : l.length ≤ 1000000) (ho : ∀ q ∈ l, ByteArray.size q ≤ maxLen) (hs : SqS w 0 h l) :
    Calls Tryz.prog 82 #[.slice h.a h.len h.cap] w fun r w' => (∃ b, r = .returned (.map (some b)) ∧ w.heap.size ≤ b ∧ KM Tryz.prog 9 Value.string w' b l.length (chM (fun x => x ∈ l))) ∧ Below w.heap.size w w' := by
  have HS := hide hs
  have HL := hide hs.1
  have HO := hide ho
  have LM : h.len ≤ 1000000 := by rw [hs.1]; exact hl
  obtain ⟨a, len, cap⟩ := h
  simp only at HL LM
  obtain ⟨W, hW⟩ : ∃ W, W = w.alloc (.map #[] 0) := ⟨_, rfl⟩
  have K0 := hide (show KM Tryz.prog 9 Value.string W w.heap.size 0 (chM (fun x => x ∈ l.take 0)) by
    have e : chM (fun x => x ∈ l.take 0) = fun _ => none := by rw [← chM_none]; exact chM_congr (fun x => by simp)
    rw [e, hW]; exact KM.made _ _ _ w)
  have B0 := hide (show Below w.heap.size w W by rw [hW]; exact bAl (Below.refl _ _) _)
  have HW := hide hW.symm
  have hmm := @run_makeMap Tryz.prog
  clear hs ho hl hW
  go_enter Tryz.func82, Tryz.ntmps82
  go_wp2_with fail
  rw [unhide HW]
  clear HW hmm
  go_loopw [9] (fun i w' => ∃ k : Nat, k ≤ len ∧ i = .int .i64 k ∧ Hid (KM Tryz.prog 9 Value.string w' w.heap.size k (chM (fun x => x ∈ l.take k))) ∧ Hid (Below w.heap.size w w')) (fun i _ => len - (Go.RowKit.intOf i).toNat)
  case atStart => exact ⟨0, Nat.zero_le _, rfl, K0, B0⟩
  case round =>
    clear K0 B0
    obtain ⟨k, hk, rfl, K, B⟩ := hrel
    by_cases hlt : k < len
    case neg =>
      have ek : k = l.length := by have := unhide HL; omega
      have KE := hide (show KM Tryz.prog 9 Value.string wr w.heap.size l.length (chM (fun x => x ∈ l)) by
        have := unhide K
        rw [ek, List.take_length] at this
        exact this)
      clear K ek
      go_wp2_with fail
      go_ret
      exact ⟨⟨_, rfl, Nat.le_refl _, unhide KE⟩, unhide B⟩
    have hk' : k < l.length := by have := unhide HL; omega
    obtain ⟨b1, off1, e1, row1⟩ := ((unhide HS).keep (unhide B)).sl.at hlt
    simp only at e1
    have c0 := row1.c k hk'
    have q := hide (add_any w.heap.size k (chM (fun x => x ∈ l.take k)) l[k] wr (unhide K) (by unfold maxLen; omega) (unhide HO _ (List.getElem_mem hk')))
    have eT : Hid (updK (chM (fun x => x ∈ l.take k)) l[k] (.agg #[]) = chM (fun x => x ∈ l.take (k + 1))) := hide (by
      rw [chM_upd]
      exact chM_congr (fun x => by rw [List.take_succ_eq_append_getElem hk', List.mem_append, List.mem_singleton]))
    clear row1 K
    generalize l[k] = A at *
    subst e1
    go_wp2_with fail
    refine (unhide q).mono ?_
    rintro e w1 ⟨rfl, h1, h2, h3⟩
    rw [unhide eT] at h1
    have K1 := hide h1
    have B1 := hide ((unhide B).grown h2 (unhide B).size (fun j hj => by cases hj; exact Nat.le_refl _))
    clear h1 h2 h3 q eT c0
    go_wp2_with fail
    exact ⟨⟨k + 1, by omega, by go_num, K1, B1⟩, by simp [Go.RowKit.intOf]; omega⟩
set_option maxHeartbeats 1000000 in
theorem hasS_n (b n : Nat) (P : ByteArray → Prop) (x : ByteArray) (w : World) (hx : x.size ≤ maxLen) (hk : KM Tryz.prog 9 Value.string w b n (chM P)) :
    Calls Tryz.prog 110 #[.map (some b), .string x] w fun r w' => RetB r (P x) ∧ Below w.heap.size w w' := by
  have HK := hide hk
  have D := hide (chM_some P x)
  have er : Hid ((chM P x).isSome = (chM P x).isSome) := hide rfl
  have ev : Hid ((chM P x).getD (.agg #[]) = .agg #[]) := hide (by unfold chM; split <;> rfl)
  generalize hM : chM P = M at HK D er ev
  have hz : ∀ w, (zeroValue 76).run Tryz.prog w = .ok (.agg #[]) w := fun w => by kernel_rfl
  clear hk hM
  go_enter Tryz.func110, Tryz.ntmps110
  go_wp2_with (at_lookup; refine wpList_look_km _ kStr rfl _ _ _ rfl _ Tryz.underlying78 (hz _) b n _ rfl (unhide HK) x rfl hx _ _ (unhide ev) (unhide er) ?_)
  go_ret
  exact ⟨retB (unhide D), bAl (Below.refl _ _) _⟩
end Go.Proofs.YtfbncneeimikcaaGreat.V
/- impl.roleIndex: isRole, areRoles, goodApart. -/
namespace Go.Proofs.YtfbncneeimikcaaGreat.V
set_option linter.unusedSimpArgs false
set_option linter.unusedVariables false
open Go.RowKit Go.Maps

abbrev KStr (w : World) (b n : Nat) (m : ByteArray → Option Value) : Prop := KM Tryz.prog 9 Value.string w b n m
/-- A map of maps whose keys are the names. -/
def KT (w : World) (b : Nat) (ns : List ByteArray) : Prop := ∃ n M, KStr w b n M ∧ (∀ s, (M s).isSome = true ↔ s ∈ ns) ∧ ∀ s v, M s = some v → ∃ b', v = .map (some b')
theorem KT.keep {w w' : World} {b : Nat} {ns : List ByteArray} (h : KT w b ns) (hb : Below w.heap.size w w') : KT w' b ns := by
  obtain ⟨n, M, h1, h2⟩ := h
  exact ⟨n, M, h1.keepB hb h1.lt, h2⟩
theorem KT.lt {w : World} {b : Nat} {ns : List ByteArray} (h : KT w b ns) : b < w.heap.size := by
  obtain ⟨n, M, h1, _⟩ := h
  exact h1.lt
theorem KT.kept {w w' : World} {b : Nat} {ns : List ByteArray} {row : Option Nat} (h : KT w b ns) (hg : w.grownBy w' row) (hne : some b ≠ row) : KT w' b ns := by
  obtain ⟨n, M, h1, h2⟩ := h
  exact ⟨n, M, h1.kept hg hne, h2⟩
set_option maxHeartbeats 1000000 in
theorem isRole_n (b1 b2 : Nat) (hp hg : Hd) (ns : List ByteArray) (s : ByteArray) (w : World) (hs : s.size ≤ maxLen) (hk : KT w b2 ns) :
    Calls Tryz.prog 106 #[.agg #[.map (some b1), .map (some b2), .slice hp.a hp.len hp.cap, .slice hg.a hg.len hg.cap], .string s] w fun r w' => RetB r (s ∈ ns) ∧ Below w.heap.size w w' := by
  obtain ⟨n, M, hM, hiff, hsh⟩ := hk
  have zb := hM.lt
  have B := hide (bAl (Below.refl w.heap.size w) (.cells #[.map (some b1), .map (some b2), .slice hp.a hp.len hp.cap, .slice hg.a hg.len hg.cap] 68))
  have HM := hide (hM.keepB (unhide B) zb)
  have D := hide (hiff s)
  clear hiff hM
  cases hm : M s
  · have er : Hid ((M s).isSome = false) := hide (by rw [hm]; rfl)
    have ev : Hid ((M s).getD (.map none) = .map none) := hide (by rw [hm]; rfl)
    have no : Hid (¬ s ∈ ns) := hide (fun h => by have := (unhide D).2 h; rw [hm] at this; cases this)
    clear hm D hsh
    go_enter Tryz.func106, Tryz.ntmps106
    go_wp2_with (at_lookup; refine wpList_look_km _ kStr rfl _ _ _ rfl _ Tryz.underlying66 (zeroSet _) b2 n _ rfl (unhide HM) s rfl hs _ _ (unhide ev) (unhide er) ?_)
    go_ret
    exact ⟨retB (b := false) ⟨fun h => (by cases h), fun h => absurd h (unhide no)⟩, unhide B⟩
  · rename_i v
    obtain ⟨b', rfl⟩ := hsh s v hm
    have er : Hid ((M s).isSome = true) := hide (by rw [hm]; rfl)
    have ev : Hid ((M s).getD (.map none) = .map (some b')) := hide (by rw [hm]; rfl)
    have yes : Hid (s ∈ ns) := hide ((unhide D).1 (by rw [hm]; rfl))
    clear hm D hsh
    go_enter Tryz.func106, Tryz.ntmps106
    go_wp2_with (at_lookup; refine wpList_look_km _ kStr rfl _ _ _ rfl _ Tryz.underlying66 (zeroSet _) b2 n _ rfl (unhide HM) s rfl hs _ _ (unhide ev) (unhide er) ?_)
    go_ret
    exact ⟨retB (b := true) ⟨fun _ => unhide yes, fun _ => rfl⟩, unhide B⟩
set_option maxHeartbeats 1000000 in
theorem notGood_isr (b1 b2 : Nat) (hp hg : Hd) (P : ByteArray → Prop) (b : Nat) (x : ByteArray) (w : World) (hc : w.cell? ⟨b, 0, none⟩ = some (.func (.func 106) #[.agg #[.map (some b1), .map (some b2), .slice hp.a hp.len hp.cap, .slice hg.a hg.len hg.cap]] #[]))
    (q : ∀ w' : World, Below w.heap.size w w' → Calls Tryz.prog 106 #[.agg #[.map (some b1), .map (some b2), .slice hp.a hp.len hp.cap, .slice hg.a hg.len hg.cap], .string x] w' fun e w'' => RetB e (P x) ∧ Below w'.heap.size w' w'') :
    Calls Tryz.prog 139 #[.string x, .pointer (some ⟨b, 0, none⟩)] w fun e w' => RetB e (¬ P x) ∧ Below w.heap.size w w' := by
  have HB := hide (Below.refl w.heap.size w)
  have zb : b < w.heap.size := World.block_lt_of_cell? w ⟨b, 0, none⟩ hc
  have Q := hide (q _ (unhide HB))
  clear q
  go_enter Tryz.func139, Tryz.ntmps139
  go_wp2_with fail
  refine (unhide Q).mono ?_
  rintro e w1 ⟨⟨v, rfl, hv⟩, hb⟩
  have B1 := hide (bTr (unhide HB) hb)
  have HV := hide hv
  clear hb HB Q hc hv
  go_wp2_with fail
  go_ret
  refine ⟨retB (b := !v) ?_, unhide B1⟩
  rw [← unhide HV]; cases v <;> simp
set_option maxHeartbeats 1000000 in
theorem indexBad_isr (b1 b2 : Nat) (hp hg : Hd) (P : ByteArray → Prop) (b : Nat) (h : Hd) (l : List ByteArray) (w : World) (hl : l.length ≤ maxLen) (hs : SqS w 0 h l) (hc : w.cell? ⟨b, 0, none⟩ = some (.func (.func 106) #[.agg #[.map (some b1), .map (some b2), .slice hp.a hp.len hp.cap, .slice hg.a hg.len hg.cap]] #[]))
    (q : ∀ x ∈ l, ∀ w' : World, Below w.heap.size w w' → Calls Tryz.prog 106 #[.agg #[.map (some b1), .map (some b2), .slice hp.a hp.len hp.cap, .slice hg.a hg.len hg.cap], .string x] w' fun e w'' => RetB e (P x) ∧ Below w'.heap.size w' w'') :
    Calls Tryz.prog 148 #[.slice h.a h.len h.cap, .func (.func 139) #[] #[.pointer (some ⟨b, 0, none⟩)]] w fun e w' => (∃ v : Int, e = .returned (.int .i64 v) ∧ (0 ≤ v ↔ ¬ ∀ x ∈ l, P x)) ∧ Below w.heap.size w w' := by
  have HS := hide hs
  have zb : b < w.heap.size := World.block_lt_of_cell? w ⟨b, 0, none⟩ hc
  have HC := hide (fun (w' : World) (h : Below w.heap.size w w') => cellB (w' := w') h zb hc)
  have HQ := hide q
  have HL := hide hs.1
  have hlm : h.len ≤ maxLen := by rw [hs.1]; exact hl
  unfold maxLen at hlm
  obtain ⟨a, len, cap⟩ := h
  simp only at hlm HL
  clear hs hc q hl
  go_enter Tryz.func148, Tryz.ntmps148
  go_wp2_with fail
  go_loopw [8] (fun i w' => ∃ k : Nat, k ≤ len ∧ i = .int .i64 k ∧ Hid (Below w.heap.size w w') ∧ Hid (∀ i (h : i < l.length), i < k → P l[i])) (fun i _ => len - (Go.RowKit.intOf i).toNat)
  case atStart => exact ⟨0, Nat.zero_le _, rfl, hide (Below.refl _ _), hide (fun i _ h => absurd h (Nat.not_lt_zero _))⟩
  case round =>
    obtain ⟨k, hk, rfl, hb, hA⟩ := hrel
    by_cases hlt : k < len
    · have hk' : k < l.length := by have := unhide HL; omega
      obtain ⟨bb_, off, e0, hrow⟩ := ((unhide HS).keep (unhide hb)).sl.at hlt
      simp only at e0
      subst e0
      have c0 := hrow.c k hk'
      have zk := hrow.z
      have q := hide (notGood_isr b1 b2 hp hg P b l[k] wr (unhide HC _ (unhide hb)) (fun w' h => unhide HQ _ (List.getElem_mem hk') w' (bTr (unhide hb) h)))
      have eS : Hid (P l[k] → ∀ i (h : i < l.length), i < k + 1 → P l[i]) := hide (fun g i hi h1 => by
        rcases Nat.lt_or_ge i k with h2 | h2
        · exact unhide hA i hi h2
        · obtain rfl : i = k := by omega
          exact g)
      have eN : Hid (¬ P l[k] → ¬ ∀ x ∈ l, P x) := hide (fun g h => g (h _ (List.getElem_mem hk')))
      clear hrow
      generalize l[k] = A at *
      go_wp2_with fail
      refine (unhide q).mono ?_
      rintro e w1 ⟨⟨v, rfl, hv⟩, hb1⟩
      have B1 := hide (bTr (unhide hb) hb1)
      have HV := hide hv
      clear hb1 q hv c0
      cases v
      · have S := hide (unhide eS (Classical.byContradiction fun h => by have := (unhide HV).2 h; cases this))
        clear eS eN HV
        go_wp2_with fail
        exact ⟨⟨k + 1, by omega, by go_num, B1, S⟩, by simp [Go.RowKit.intOf]; omega⟩
      · have N := hide (unhide eN ((unhide HV).1 rfl))
        clear eS eN HV
        go_wp2_with fail
        go_ret
        exact ⟨⟨_, rfl, fun _ => unhide N, fun _ => by omega⟩, unhide B1⟩
    · have S : Hid (∀ x ∈ l, P x) := hide (fun x hx => by
        obtain ⟨i, hi, rfl⟩ := List.getElem_of_mem hx
        exact unhide hA i hi (by have := unhide HL; omega))
      go_wp2_with fail
      go_ret
      exact ⟨⟨_, rfl, fun h => absurd h (by decide), fun h => absurd (unhide S) h⟩, unhide hb⟩
set_option maxHeartbeats 1000000 in
theorem goodList_isr (b1 b2 : Nat) (hp hg : Hd) (P : ByteArray → Prop) (most : Int) (h : Hd) (l : List ByteArray) (w : World) (hl : l.length ≤ maxLen) (hs : SqS w 0 h l)
    (q : ∀ x ∈ l, ∀ w' : World, Below w.heap.size w w' → Calls Tryz.prog 106 #[.agg #[.map (some b1), .map (some b2), .slice hp.a hp.len hp.cap, .slice hg.a hg.len hg.cap], .string x] w' fun e w'' => RetB e (P x) ∧ Below w'.heap.size w' w'') :
    Calls Tryz.prog 121 #[.slice h.a h.len h.cap, .int .i64 most, .func (.func 106) #[.agg #[.map (some b1), .map (some b2), .slice hp.a hp.len hp.cap, .slice hg.a hg.len hg.cap]] #[]] w fun e w' => RetB e ((l.length : Int) ≤ most ∧ ∀ x ∈ l, P x) ∧ Below w.heap.size w w' := by
  have HS := hide hs
  have HQ := hide q
  have HL := hide hs.1
  have HM := hide hl
  clear hs q hl
  by_cases h200 : (h.len : Int) ≤ most
  · obtain ⟨W, hW⟩ : ∃ W, W = w.alloc (.cells #[.func (.func 106) #[.agg #[.map (some b1), .map (some b2), .slice hp.a hp.len hp.cap, .slice hg.a hg.len hg.cap]] #[]] 104) := ⟨_, rfl⟩
    have R := show RowIs W w.heap.size #[.func (.func 106) #[.agg #[.map (some b1), .map (some b2), .slice hp.a hp.len hp.cap, .slice hg.a hg.len hg.cap]] #[]] 104 by rw [hW]; exact RowIs.new _ _ _
    have B := hide (show Below w.heap.size w W by rw [hW]; exact bAl (Below.refl _ _) _)
    have HW := hide hW.symm
    clear hW
    have q := hide (fun hc => indexBad_isr b1 b2 hp hg P w.heap.size h l W (unhide HM) ((unhide HS).keep (unhide B)) hc (fun x hx w' h => unhide HQ x hx w' (bTr (unhide B) h)))
    have q2 : Hid (Calls Tryz.prog 138 #[.slice h.a h.len h.cap, .func (.func 139) #[] #[.pointer (some ⟨w.heap.size, 0, none⟩)]] W fun e w' => (∃ v : Bool, e = .returned (.bool v) ∧ (v = true ↔ ¬ ∀ x ∈ l, P x)) ∧ Below W.heap.size W w') := hide (by
      have q := hide (unhide q (R.at (o := 0) rfl))
      go_enter Tryz.func138, Tryz.ntmps138
      go_wp2_with fail
      refine (unhide q).mono ?_
      rintro e w1 ⟨⟨v, rfl, hv⟩, hb⟩
      have HV := hide hv
      clear hv
      go_wp2_with fail
      go_ret
      exact ⟨⟨decide (0 ≤ v), rfl, by rw [decide_eq_true_iff]; exact unhide HV⟩, hb⟩)
    have hst := @run_store Tryz.prog
    clear q R
    go_enter Tryz.func121, Tryz.ntmps121
    go_wp2_with fail
    rw [unhide HW]
    refine (unhide q2).mono ?_
    rintro e w1 ⟨⟨v, rfl, hv⟩, hb⟩
    have HV := hide hv
    have B1 := hide (bTr (unhide B) hb)
    clear hv hb q2 hst HW B
    go_wp2_with fail
    go_ret
    have hle := unhide HL
    refine ⟨retB (b := !v) ⟨fun h => ?_, fun h => ?_⟩, unhide B1⟩
    · cases v
      · refine ⟨by omega, ?_⟩
        have := unhide HV
        exact Classical.byContradiction fun hn => by have := this.2 hn; cases this
      · cases h
    · cases v
      · rfl
      · exact absurd h.2 ((unhide HV).1 rfl)
  · have d : decide ((h.len : Int) ≤ most) = false := by simpa using h200
    have B := hide (bAl (Below.refl w.heap.size w) (.cells #[.func (.func 106) #[.agg #[.map (some b1), .map (some b2), .slice hp.a hp.len hp.cap, .slice hg.a hg.len hg.cap]] #[]] 104))
    have hst := @run_store Tryz.prog
    go_enter Tryz.func121, Tryz.ntmps121
    go_wp2_with fail
    go_ret
    have hle := unhide HL
    exact ⟨retB (b := false) ⟨fun h => (by cases h), fun h => absurd h.1 (by omega)⟩, unhide B⟩
set_option maxHeartbeats 400000 in
theorem every_isr (b1 b2 : Nat) (hp hg : Hd) (P : ByteArray → Prop) (h : Hd) (l : List ByteArray) (w : World) (hl : l.length ≤ maxLen) (hs : SqS w 0 h l)
    (q : ∀ x ∈ l, ∀ w' : World, Below w.heap.size w w' → Calls Tryz.prog 106 #[.agg #[.map (some b1), .map (some b2), .slice hp.a hp.len hp.cap, .slice hg.a hg.len hg.cap], .string x] w' fun e w'' => RetB e (P x) ∧ Below w'.heap.size w' w'') :
    Calls Tryz.prog 105 #[.slice h.a h.len h.cap, .func (.func 106) #[.agg #[.map (some b1), .map (some b2), .slice hp.a hp.len hp.cap, .slice hg.a hg.len hg.cap]] #[]] w fun e w' => RetB e (∀ x ∈ l, P x) ∧ Below w.heap.size w w' := by
  have Q := hide (goodList_isr b1 b2 hp hg P h.len h l w hl hs q)
  have HL := hide hs.1
  clear hs q hl
  go_enter Tryz.func105, Tryz.ntmps105
  go_wp2_with fail
  refine (unhide Q).mono ?_
  rintro e w1 ⟨⟨v, rfl, hv⟩, hb⟩
  have HV := hide hv
  clear hv Q
  go_wp2_with fail
  go_ret
  exact ⟨retB (b := v) ((unhide HV).trans ⟨fun h => h.2, fun h => ⟨by have := unhide HL; omega, h⟩⟩), hb⟩
set_option maxHeartbeats 1000000 in
theorem areRoles_n (b1 b2 : Nat) (hp hg : Hd) (ns : List ByteArray) (h : Hd) (l : List ByteArray) (w : World) (hl : l.length ≤ maxLen) (ho : ∀ q ∈ l, ByteArray.size q ≤ maxLen) (hk : KT w b2 ns) (hs : SqS w 0 h l) :
    Calls Tryz.prog 84 #[.agg #[.map (some b1), .map (some b2), .slice hp.a hp.len hp.cap, .slice hg.a hg.len hg.cap], .slice h.a h.len h.cap] w fun r w' => RetB r (AllR ns l) ∧ Below w.heap.size w w' := by
  have B := hide (bAl (Below.refl w.heap.size w) (.cells #[.map (some b1), .map (some b2), .slice hp.a hp.len hp.cap, .slice hg.a hg.len hg.cap] 68))
  have q1 := hide (every_isr b1 b2 hp hg (fun s => s ∈ ns) h l _ hl (hs.keep (unhide B)) (fun x hx w' hb => isRole_n b1 b2 hp hg ns x w' (ho x hx) ((hk.keep (unhide B)).keep hb)))
  have q2 := hide (fun (w' : World) (hb : Below w.heap.size w w') => risStr_n h l w' hl (hs.keep hb))
  have D : Hid (AllR ns l ↔ ((∀ s ∈ l, s ∈ ns) ∧ RisT l)) := hide Iff.rfl
  generalize AllR ns l = G at D ⊢
  clear hl ho hk hs
  go_enter Tryz.func84, Tryz.ntmps84
  go_wp2_with fail
  refine (unhide q1).mono ?_
  rintro r w1 ⟨⟨v1, rfl, hv1⟩, hb⟩
  replace B := hide (bTr (unhide B) hb)
  have H1 := hide hv1
  clear hb hv1 q1
  cases v1
  case false =>
    have no : Hid (¬ G) := hide (fun g => by have := (unhide H1).2 ((unhide D).1 g).1; cases this)
    clear D q2
    go_wp2_with fail
    go_ret
    exact ⟨retB (b := false) ⟨fun h => (by cases h), fun h => absurd h (unhide no)⟩, unhide B⟩
  replace H1 := hide ((unhide H1).1 rfl)
  go_wp2_with fail
  refine (unhide q2 _ (unhide B)).mono ?_
  rintro r w2 ⟨⟨v2, rfl, hv2⟩, hb⟩
  replace B := hide (bTr (unhide B) hb)
  have H2 := hide hv2
  clear hb hv2 q2
  go_wp2_with fail
  go_ret
  exact ⟨retB (b := v2) ((unhide H2).trans ⟨fun h => (unhide D).2 ⟨unhide H1, h⟩, fun h => ((unhide D).1 h).2⟩), unhide B⟩
set_option maxHeartbeats 1000000 in
theorem goodApart_n (b1 b2 : Nat) (hp hg : Hd) (ns : List ByteArray) (e : ApartE) (w : World) (hn : ApartN e.t) (hk : KT w b2 ns) (hm : ApartM w 0 e) :
    Calls Tryz.prog 88 #[.agg #[.map (some b1), .map (some b2), .slice hp.a hp.len hp.cap, .slice hg.a hg.len hg.cap], .agg #[.slice e.h0.a e.h0.len e.h0.cap, .int .i64 e.t.f1, .bool e.t.f2]] w fun r w' => RetB r (GAp ns e.t) ∧ Below w.heap.size w w' := by
  obtain ⟨W, hW⟩ : ∃ W, W = (w.alloc (.cells #[.map (some b1), .map (some b2), .slice hp.a hp.len hp.cap, .slice hg.a hg.len hg.cap] 68)).alloc (.cells #[.slice e.h0.a e.h0.len e.h0.cap, .int .i64 e.t.f1, .bool e.t.f2] 109) := ⟨_, rfl⟩
  have B := hide (show Below w.heap.size w W by rw [hW]; exact bAl (bAl (Below.refl w.heap.size w) _) _)
  have R := hide (show RowIs W (w.heap.size + 1) #[.slice e.h0.a e.h0.len e.h0.cap, .int .i64 e.t.f1, .bool e.t.f2] 109 by rw [hW]; have := RowIs.new (w.alloc (.cells #[.map (some b1), .map (some b2), .slice hp.a hp.len hp.cap, .slice hg.a hg.len hg.cap] 68)) #[.slice e.h0.a e.h0.len e.h0.cap, .int .i64 e.t.f1, .bool e.t.f2] 109; simpa using this)
  have q1 := hide (areRoles_n b1 b2 hp hg ns e.h0 e.t.f0 W hn.l0 hn.o0 (hk.keep (unhide B)) (hm.m0.keep (unhide B)))
  have EL := hide hm.m0.1
  have hlm := hn.l0
  unfold maxLen at hlm
  have zl : e.h0.len ≤ 9223372036854775807 := by have := unhide EL; omega
  have D : Hid (GAp ns e.t ↔ (AllR ns e.t.f0 ∧ 1 ≤ e.t.f1 ∧ e.t.f1 < e.t.f0.length)) := hide Iff.rfl
  generalize GAp ns e.t = G at D ⊢
  generalize AllR ns e.t.f0 = AA at D q1
  have HW := hide hW.symm
  clear hn hm hk hW hlm
  go_enter Tryz.func88, Tryz.ntmps88
  go_wp2_with fail
  rw [unhide HW]
  clear HW
  refine (unhide q1).mono ?_
  rintro r w1 ⟨⟨v1, rfl, hv1⟩, hb⟩
  replace B := hide (bTr (unhide B) hb)
  replace R := hide ((unhide R).keep hb)
  have H1 := hide hv1
  clear hb hv1 q1
  cases v1
  case false =>
    have no : Hid (¬ G) := hide (fun g => by have := (unhide H1).2 ((unhide D).1 g).1; cases this)
    clear D R H1
    go_wp2_with fail
    go_ret
    exact ⟨retB (b := false) ⟨fun h => (by cases h), fun h => absurd h (unhide no)⟩, unhide B⟩
  have c0 := (unhide R).at (o := 0) (v := .slice e.h0.a e.h0.len e.h0.cap) rfl
  have c1 := (unhide R).at (o := 1) (v := .int .i64 e.t.f1) rfl
  by_cases g1 : 1 ≤ e.t.f1
  case neg =>
    have no : Hid (¬ G) := hide (fun g => g1 ((unhide D).1 g).2.1)
    have d1 : decide (1 ≤ e.t.f1) = false := by simpa using g1
    clear D R H1 g1
    go_wp2_with fail
    go_ret
    exact ⟨retB (b := false) ⟨fun h => (by cases h), fun h => absurd h (unhide no)⟩, unhide B⟩
  have d1 : decide (1 ≤ e.t.f1) = true := decide_eq_true g1
  have Y : Hid (G ↔ decide (e.t.f1 < (e.h0.len : Int)) = true) := hide ((unhide D).trans ⟨fun h => decide_eq_true (by have := h.2.2; have := unhide EL; omega), fun h => ⟨(unhide H1).1 rfl, g1, by have := of_decide_eq_true h; have := unhide EL; omega⟩⟩)
  generalize hd : decide (e.t.f1 < (e.h0.len : Int)) = d2 at Y
  clear D R H1 g1
  go_wp2_with fail
  go_ret
  exact ⟨retB (b := d2) (unhide Y).symm, unhide B⟩
end Go.Proofs.YtfbncneeimikcaaGreat.V
