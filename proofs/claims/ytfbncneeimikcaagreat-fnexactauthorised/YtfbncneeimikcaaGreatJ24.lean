/- OId, ZLd, one behind the other. -/
import Derived.Test.YtfbncneeimikcaaGreatJ23
import Derived.Carry
import Derived.Deep.RegionWith
import Derived.Deep.RegionHeld3
import Derived.Test.YtfbncneeimikcaaGreatJ8
import Derived.Deep.MidRow
/- impl.roleIndexOf, GoodRoleSet. -/
namespace Go.Proofs.YtfbncneeimikcaaGreat.V
set_option linter.unusedSimpArgs false
set_option linter.unusedVariables false
open Go.RowKit Go.Maps

set_option maxHeartbeats 1000000 in
theorem notGood_gro  (P : RoleE → Prop) (b : Nat) (x : RoleE) (w : World) (hc : w.cell? ⟨b, 0, none⟩ = some (.func (.func 79) #[] #[]))
    (q : ∀ w' : World, Below w.heap.size w w' → Calls Tryz.prog 79 #[.agg #[.string x.t.f0, .slice x.h1.a x.h1.len x.h1.cap, .slice x.h2.a x.h2.len x.h2.cap]] w' fun e w'' => RetB e (P x) ∧ Below w'.heap.size w' w'') :
    Calls Tryz.prog 99 #[.agg #[.string x.t.f0, .slice x.h1.a x.h1.len x.h1.cap, .slice x.h2.a x.h2.len x.h2.cap], .pointer (some ⟨b, 0, none⟩)] w fun e w' => RetB e (¬ P x) ∧ Below w.heap.size w w' := by
  have HB := hide (bAl (Below.refl w.heap.size w) (.cells #[.string x.t.f0, .slice x.h1.a x.h1.len x.h1.cap, .slice x.h2.a x.h2.len x.h2.cap] 103))
  have zb : b < w.heap.size := World.block_lt_of_cell? w ⟨b, 0, none⟩ hc
  have Q := hide (q _ (unhide HB))
  clear q
  go_enter Tryz.func99, Tryz.ntmps99
  go_wp2_with fail
  refine (unhide Q).mono ?_
  rintro e w1 ⟨⟨v, rfl, hv⟩, hb⟩
  have B1 := hide (bTr (unhide HB) hb)
  have HV := hide hv
  clear hb HB Q hc hv
  go_wp2_with fail
  go_ret
  refine ⟨retB (b := !v) ?_, unhide B1⟩
  rw [← unhide HV]; cases v <;> simp
set_option maxHeartbeats 1000000 in
theorem indexBad_gro  (P : RoleE → Prop) (b : Nat) (h : Hd) (l : List RoleE) (w : World) (hl : l.length ≤ maxLen) (hs : SqRoleE w 0 h l) (hc : w.cell? ⟨b, 0, none⟩ = some (.func (.func 79) #[] #[]))
    (q : ∀ x ∈ l, ∀ w' : World, Below w.heap.size w w' → Calls Tryz.prog 79 #[.agg #[.string x.t.f0, .slice x.h1.a x.h1.len x.h1.cap, .slice x.h2.a x.h2.len x.h2.cap]] w' fun e w'' => RetB e (P x) ∧ Below w'.heap.size w' w'') :
    Calls Tryz.prog 118 #[.slice h.a h.len h.cap, .func (.func 99) #[] #[.pointer (some ⟨b, 0, none⟩)]] w fun e w' => (∃ v : Int, e = .returned (.int .i64 v) ∧ (0 ≤ v ↔ ¬ ∀ x ∈ l, P x)) ∧ Below w.heap.size w w' := by
  have HS := hide hs
  have zb : b < w.heap.size := World.block_lt_of_cell? w ⟨b, 0, none⟩ hc
  have HC := hide (fun (w' : World) (h : Below w.heap.size w w') => cellB (w' := w') h zb hc)
  have HQ := hide q
  have HL := hide hs.1
  have hlm : h.len ≤ maxLen := by rw [hs.1]; exact hl
  unfold maxLen at hlm
  obtain ⟨a, len, cap⟩ := h
  simp only at hlm HL
  clear hs hc q hl
  go_enter Tryz.func118, Tryz.ntmps118
  go_wp2_with fail
  go_loopw [8] (fun i w' => ∃ k : Nat, k ≤ len ∧ i = .int .i64 k ∧ Hid (Below w.heap.size w w') ∧ Hid (∀ i (h : i < l.length), i < k → P l[i])) (fun i _ => len - (Go.RowKit.intOf i).toNat)
  case atStart => exact ⟨0, Nat.zero_le _, rfl, hide (Below.refl _ _), hide (fun i _ h => absurd h (Nat.not_lt_zero _))⟩
  case round =>
    obtain ⟨k, hk, rfl, hb, hA⟩ := hrel
    by_cases hlt : k < len
    · have hk' : k < l.length := by have := unhide HL; omega
      obtain ⟨bb_, off, e0, hrow⟩ := ((unhide HS).keep (unhide hb)).at hlt
      simp only at e0
      subst e0
      have c0 := hrow.c0 k hk'
      have c1 := hrow.c1 k hk'
      have c2 := hrow.c2 k hk'
      have zk := hrow.z
      have q := hide (notGood_gro  P b l[k] wr (unhide HC _ (unhide hb)) (fun w' h => unhide HQ _ (List.getElem_mem hk') w' (bTr (unhide hb) h)))
      have eS : Hid (P l[k] → ∀ i (h : i < l.length), i < k + 1 → P l[i]) := hide (fun g i hi h1 => by
        rcases Nat.lt_or_ge i k with h2 | h2
        · exact unhide hA i hi h2
        · obtain rfl : i = k := by omega
          exact g)
      have eN : Hid (¬ P l[k] → ¬ ∀ x ∈ l, P x) := hide (fun g h => g (h _ (List.getElem_mem hk')))
      clear hrow
      generalize l[k] = A at *
      go_wp2_with fail
      refine (unhide q).mono ?_
      rintro e w1 ⟨⟨v, rfl, hv⟩, hb1⟩
      have B1 := hide (bTr (unhide hb) hb1)
      have HV := hide hv
      clear hb1 q hv c0 c1 c2
      cases v
      · have S := hide (unhide eS (Classical.byContradiction fun h => by have := (unhide HV).2 h; cases this))
        clear eS eN HV
        go_wp2_with fail
        exact ⟨⟨k + 1, by omega, by go_num, B1, S⟩, by simp [Go.RowKit.intOf]; omega⟩
      · have N := hide (unhide eN ((unhide HV).1 rfl))
        clear eS eN HV
        go_wp2_with fail
        go_ret
        exact ⟨⟨_, rfl, fun _ => unhide N, fun _ => by omega⟩, unhide B1⟩
    · have S : Hid (∀ x ∈ l, P x) := hide (fun x hx => by
        obtain ⟨i, hi, rfl⟩ := List.getElem_of_mem hx
        exact unhide hA i hi (by have := unhide HL; omega))
      go_wp2_with fail
      go_ret
      exact ⟨⟨_, rfl, fun h => absurd h (by decide), fun h => absurd (unhide S) h⟩, unhide hb⟩
set_option maxHeartbeats 1000000 in
theorem goodList_gro  (P : RoleE → Prop) (most : Int) (h : Hd) (l : List RoleE) (w : World) (hl : l.length ≤ maxLen) (hs : SqRoleE w 0 h l)
    (q : ∀ x ∈ l, ∀ w' : World, Below w.heap.size w w' → Calls Tryz.prog 79 #[.agg #[.string x.t.f0, .slice x.h1.a x.h1.len x.h1.cap, .slice x.h2.a x.h2.len x.h2.cap]] w' fun e w'' => RetB e (P x) ∧ Below w'.heap.size w' w'') :
    Calls Tryz.prog 78 #[.slice h.a h.len h.cap, .int .i64 most, .func (.func 79) #[] #[]] w fun e w' => RetB e ((l.length : Int) ≤ most ∧ ∀ x ∈ l, P x) ∧ Below w.heap.size w w' := by
  have HS := hide hs
  have HQ := hide q
  have HL := hide hs.1
  have HM := hide hl
  clear hs q hl
  by_cases h200 : (h.len : Int) ≤ most
  · obtain ⟨W, hW⟩ : ∃ W, W = w.alloc (.cells #[.func (.func 79) #[] #[]] 139) := ⟨_, rfl⟩
    have R := show RowIs W w.heap.size #[.func (.func 79) #[] #[]] 139 by rw [hW]; exact RowIs.new _ _ _
    have B := hide (show Below w.heap.size w W by rw [hW]; exact bAl (Below.refl _ _) _)
    have HW := hide hW.symm
    clear hW
    have q := hide (fun hc => indexBad_gro  P w.heap.size h l W (unhide HM) ((unhide HS).keep (unhide B)) hc (fun x hx w' h => unhide HQ x hx w' (bTr (unhide B) h)))
    have q2 : Hid (Calls Tryz.prog 98 #[.slice h.a h.len h.cap, .func (.func 99) #[] #[.pointer (some ⟨w.heap.size, 0, none⟩)]] W fun e w' => (∃ v : Bool, e = .returned (.bool v) ∧ (v = true ↔ ¬ ∀ x ∈ l, P x)) ∧ Below W.heap.size W w') := hide (by
      have q := hide (unhide q (R.at (o := 0) rfl))
      go_enter Tryz.func98, Tryz.ntmps98
      go_wp2_with fail
      refine (unhide q).mono ?_
      rintro e w1 ⟨⟨v, rfl, hv⟩, hb⟩
      have HV := hide hv
      clear hv
      go_wp2_with fail
      go_ret
      exact ⟨⟨decide (0 ≤ v), rfl, by rw [decide_eq_true_iff]; exact unhide HV⟩, hb⟩)
    have hst := @run_store Tryz.prog
    clear q R
    go_enter Tryz.func78, Tryz.ntmps78
    go_wp2_with fail
    rw [unhide HW]
    refine (unhide q2).mono ?_
    rintro e w1 ⟨⟨v, rfl, hv⟩, hb⟩
    have HV := hide hv
    have B1 := hide (bTr (unhide B) hb)
    clear hv hb q2 hst HW B
    go_wp2_with fail
    go_ret
    have hle := unhide HL
    refine ⟨retB (b := !v) ⟨fun h => ?_, fun h => ?_⟩, unhide B1⟩
    · cases v
      · refine ⟨by omega, ?_⟩
        have := unhide HV
        exact Classical.byContradiction fun hn => by have := this.2 hn; cases this
      · cases h
    · cases v
      · rfl
      · exact absurd h.2 ((unhide HV).1 rfl)
  · have d : decide ((h.len : Int) ≤ most) = false := by simpa using h200
    have B := hide (bAl (Below.refl w.heap.size w) (.cells #[.func (.func 79) #[] #[]] 139))
    have hst := @run_store Tryz.prog
    go_enter Tryz.func78, Tryz.ntmps78
    go_wp2_with fail
    go_ret
    have hle := unhide HL
    exact ⟨retB (b := false) ⟨fun h => (by cases h), fun h => absurd h.1 (by omega)⟩, unhide B⟩
set_option maxHeartbeats 1000000 in
theorem notGood_abv (bc : Nat) (P : RoleE → Prop) (b : Nat) (x : RoleE) (w : World) (hc : w.cell? ⟨b, 0, none⟩ = some (.func (.func 83) #[] #[.pointer (some ⟨bc, 0, none⟩)]))
    (q : ∀ w' : World, Below w.heap.size w w' → Calls Tryz.prog 83 #[.agg #[.string x.t.f0, .slice x.h1.a x.h1.len x.h1.cap, .slice x.h2.a x.h2.len x.h2.cap], .pointer (some ⟨bc, 0, none⟩)] w' fun e w'' => RetB e (P x) ∧ Below w'.heap.size w' w'') :
    Calls Tryz.prog 99 #[.agg #[.string x.t.f0, .slice x.h1.a x.h1.len x.h1.cap, .slice x.h2.a x.h2.len x.h2.cap], .pointer (some ⟨b, 0, none⟩)] w fun e w' => RetB e (¬ P x) ∧ Below w.heap.size w w' := by
  have HB := hide (bAl (Below.refl w.heap.size w) (.cells #[.string x.t.f0, .slice x.h1.a x.h1.len x.h1.cap, .slice x.h2.a x.h2.len x.h2.cap] 103))
  have zb : b < w.heap.size := World.block_lt_of_cell? w ⟨b, 0, none⟩ hc
  have Q := hide (q _ (unhide HB))
  clear q
  go_enter Tryz.func99, Tryz.ntmps99
  go_wp2_with fail
  refine (unhide Q).mono ?_
  rintro e w1 ⟨⟨v, rfl, hv⟩, hb⟩
  have B1 := hide (bTr (unhide HB) hb)
  have HV := hide hv
  clear hb HB Q hc hv
  go_wp2_with fail
  go_ret
  refine ⟨retB (b := !v) ?_, unhide B1⟩
  rw [← unhide HV]; cases v <;> simp
set_option maxHeartbeats 1000000 in
theorem indexBad_abv (bc : Nat) (P : RoleE → Prop) (b : Nat) (h : Hd) (l : List RoleE) (w : World) (hl : l.length ≤ maxLen) (hs : SqRoleE w 0 h l) (hc : w.cell? ⟨b, 0, none⟩ = some (.func (.func 83) #[] #[.pointer (some ⟨bc, 0, none⟩)]))
    (q : ∀ x ∈ l, ∀ w' : World, Below w.heap.size w w' → Calls Tryz.prog 83 #[.agg #[.string x.t.f0, .slice x.h1.a x.h1.len x.h1.cap, .slice x.h2.a x.h2.len x.h2.cap], .pointer (some ⟨bc, 0, none⟩)] w' fun e w'' => RetB e (P x) ∧ Below w'.heap.size w' w'') :
    Calls Tryz.prog 118 #[.slice h.a h.len h.cap, .func (.func 99) #[] #[.pointer (some ⟨b, 0, none⟩)]] w fun e w' => (∃ v : Int, e = .returned (.int .i64 v) ∧ (0 ≤ v ↔ ¬ ∀ x ∈ l, P x)) ∧ Below w.heap.size w w' := by
  have HS := hide hs
  have zb : b < w.heap.size := World.block_lt_of_cell? w ⟨b, 0, none⟩ hc
  have HC := hide (fun (w' : World) (h : Below w.heap.size w w') => cellB (w' := w') h zb hc)
  have HQ := hide q
  have HL := hide hs.1
  have hlm : h.len ≤ maxLen := by rw [hs.1]; exact hl
  unfold maxLen at hlm
  obtain ⟨a, len, cap⟩ := h
  simp only at hlm HL
  clear hs hc q hl
  go_enter Tryz.func118, Tryz.ntmps118
  go_wp2_with fail
  go_loopw [8] (fun i w' => ∃ k : Nat, k ≤ len ∧ i = .int .i64 k ∧ Hid (Below w.heap.size w w') ∧ Hid (∀ i (h : i < l.length), i < k → P l[i])) (fun i _ => len - (Go.RowKit.intOf i).toNat)
  case atStart => exact ⟨0, Nat.zero_le _, rfl, hide (Below.refl _ _), hide (fun i _ h => absurd h (Nat.not_lt_zero _))⟩
  case round =>
    obtain ⟨k, hk, rfl, hb, hA⟩ := hrel
    by_cases hlt : k < len
    · have hk' : k < l.length := by have := unhide HL; omega
      obtain ⟨bb_, off, e0, hrow⟩ := ((unhide HS).keep (unhide hb)).at hlt
      simp only at e0
      subst e0
      have c0 := hrow.c0 k hk'
      have c1 := hrow.c1 k hk'
      have c2 := hrow.c2 k hk'
      have zk := hrow.z
      have q := hide (notGood_abv bc P b l[k] wr (unhide HC _ (unhide hb)) (fun w' h => unhide HQ _ (List.getElem_mem hk') w' (bTr (unhide hb) h)))
      have eS : Hid (P l[k] → ∀ i (h : i < l.length), i < k + 1 → P l[i]) := hide (fun g i hi h1 => by
        rcases Nat.lt_or_ge i k with h2 | h2
        · exact unhide hA i hi h2
        · obtain rfl : i = k := by omega
          exact g)
      have eN : Hid (¬ P l[k] → ¬ ∀ x ∈ l, P x) := hide (fun g h => g (h _ (List.getElem_mem hk')))
      clear hrow
      generalize l[k] = A at *
      go_wp2_with fail
      refine (unhide q).mono ?_
      rintro e w1 ⟨⟨v, rfl, hv⟩, hb1⟩
      have B1 := hide (bTr (unhide hb) hb1)
      have HV := hide hv
      clear hb1 q hv c0 c1 c2
      cases v
      · have S := hide (unhide eS (Classical.byContradiction fun h => by have := (unhide HV).2 h; cases this))
        clear eS eN HV
        go_wp2_with fail
        exact ⟨⟨k + 1, by omega, by go_num, B1, S⟩, by simp [Go.RowKit.intOf]; omega⟩
      · have N := hide (unhide eN ((unhide HV).1 rfl))
        clear eS eN HV
        go_wp2_with fail
        go_ret
        exact ⟨⟨_, rfl, fun _ => unhide N, fun _ => by omega⟩, unhide B1⟩
    · have S : Hid (∀ x ∈ l, P x) := hide (fun x hx => by
        obtain ⟨i, hi, rfl⟩ := List.getElem_of_mem hx
        exact unhide hA i hi (by have := unhide HL; omega))
      go_wp2_with fail
      go_ret
      exact ⟨⟨_, rfl, fun h => absurd h (by decide), fun h => absurd (unhide S) h⟩, unhide hb⟩
set_option maxHeartbeats 1000000 in
theorem goodList_abv (bc : Nat) (P : RoleE → Prop) (most : Int) (h : Hd) (l : List RoleE) (w : World) (hl : l.length ≤ maxLen) (hs : SqRoleE w 0 h l)
    (q : ∀ x ∈ l, ∀ w' : World, Below w.heap.size w w' → Calls Tryz.prog 83 #[.agg #[.string x.t.f0, .slice x.h1.a x.h1.len x.h1.cap, .slice x.h2.a x.h2.len x.h2.cap], .pointer (some ⟨bc, 0, none⟩)] w' fun e w'' => RetB e (P x) ∧ Below w'.heap.size w' w'') :
    Calls Tryz.prog 78 #[.slice h.a h.len h.cap, .int .i64 most, .func (.func 83) #[] #[.pointer (some ⟨bc, 0, none⟩)]] w fun e w' => RetB e ((l.length : Int) ≤ most ∧ ∀ x ∈ l, P x) ∧ Below w.heap.size w w' := by
  have HS := hide hs
  have HQ := hide q
  have HL := hide hs.1
  have HM := hide hl
  clear hs q hl
  by_cases h200 : (h.len : Int) ≤ most
  · obtain ⟨W, hW⟩ : ∃ W, W = w.alloc (.cells #[.func (.func 83) #[] #[.pointer (some ⟨bc, 0, none⟩)]] 139) := ⟨_, rfl⟩
    have R := show RowIs W w.heap.size #[.func (.func 83) #[] #[.pointer (some ⟨bc, 0, none⟩)]] 139 by rw [hW]; exact RowIs.new _ _ _
    have B := hide (show Below w.heap.size w W by rw [hW]; exact bAl (Below.refl _ _) _)
    have HW := hide hW.symm
    clear hW
    have q := hide (fun hc => indexBad_abv bc P w.heap.size h l W (unhide HM) ((unhide HS).keep (unhide B)) hc (fun x hx w' h => unhide HQ x hx w' (bTr (unhide B) h)))
    have q2 : Hid (Calls Tryz.prog 98 #[.slice h.a h.len h.cap, .func (.func 99) #[] #[.pointer (some ⟨w.heap.size, 0, none⟩)]] W fun e w' => (∃ v : Bool, e = .returned (.bool v) ∧ (v = true ↔ ¬ ∀ x ∈ l, P x)) ∧ Below W.heap.size W w') := hide (by
      have q := hide (unhide q (R.at (o := 0) rfl))
      go_enter Tryz.func98, Tryz.ntmps98
      go_wp2_with fail
      refine (unhide q).mono ?_
      rintro e w1 ⟨⟨v, rfl, hv⟩, hb⟩
      have HV := hide hv
      clear hv
      go_wp2_with fail
      go_ret
      exact ⟨⟨decide (0 ≤ v), rfl, by rw [decide_eq_true_iff]; exact unhide HV⟩, hb⟩)
    have hst := @run_store Tryz.prog
    clear q R
    go_enter Tryz.func78, Tryz.ntmps78
    go_wp2_with fail
    rw [unhide HW]
    refine (unhide q2).mono ?_
    rintro e w1 ⟨⟨v, rfl, hv⟩, hb⟩
    have HV := hide hv
    have B1 := hide (bTr (unhide B) hb)
    clear hv hb q2 hst HW B
    go_wp2_with fail
    go_ret
    have hle := unhide HL
    refine ⟨retB (b := !v) ⟨fun h => ?_, fun h => ?_⟩, unhide B1⟩
    · cases v
      · refine ⟨by omega, ?_⟩
        have := unhide HV
        exact Classical.byContradiction fun hn => by have := this.2 hn; cases this
      · cases h
    · cases v
      · rfl
      · exact absurd h.2 ((unhide HV).1 rfl)
  · have d : decide ((h.len : Int) ≤ most) = false := by simpa using h200
    have B := hide (bAl (Below.refl w.heap.size w) (.cells #[.func (.func 83) #[] #[.pointer (some ⟨bc, 0, none⟩)]] 139))
    have hst := @run_store Tryz.prog
    go_enter Tryz.func78, Tryz.ntmps78
    go_wp2_with fail
    go_ret
    have hle := unhide HL
    exact ⟨retB (b := false) ⟨fun h => (by cases h), fun h => absurd h.1 (by omega)⟩, unhide B⟩
set_option maxHeartbeats 400000 in
theorem every_abv (bc : Nat) (P : RoleE → Prop) (h : Hd) (l : List RoleE) (w : World) (hl : l.length ≤ maxLen) (hs : SqRoleE w 0 h l)
    (q : ∀ x ∈ l, ∀ w' : World, Below w.heap.size w w' → Calls Tryz.prog 83 #[.agg #[.string x.t.f0, .slice x.h1.a x.h1.len x.h1.cap, .slice x.h2.a x.h2.len x.h2.cap], .pointer (some ⟨bc, 0, none⟩)] w' fun e w'' => RetB e (P x) ∧ Below w'.heap.size w' w'') :
    Calls Tryz.prog 85 #[.slice h.a h.len h.cap, .func (.func 83) #[] #[.pointer (some ⟨bc, 0, none⟩)]] w fun e w' => RetB e (∀ x ∈ l, P x) ∧ Below w.heap.size w w' := by
  have Q := hide (goodList_abv bc P h.len h l w hl hs q)
  have HL := hide hs.1
  clear hs q hl
  go_enter Tryz.func85, Tryz.ntmps85
  go_wp2_with fail
  refine (unhide Q).mono ?_
  rintro e w1 ⟨⟨v, rfl, hv⟩, hb⟩
  have HV := hide hv
  clear hv Q
  go_wp2_with fail
  go_ret
  exact ⟨retB (b := v) ((unhide HV).trans ⟨fun h => h.2, fun h => ⟨by have := unhide HL; omega, h⟩⟩), hb⟩
set_option maxHeartbeats 1000000 in
theorem notGood_gap (b1 b2 : Nat) (hp hg : Hd) (P : ApartE → Prop) (b : Nat) (x : ApartE) (w : World) (hc : w.cell? ⟨b, 0, none⟩ = some (.func (.func 88) #[.agg #[.map (some b1), .map (some b2), .slice hp.a hp.len hp.cap, .slice hg.a hg.len hg.cap]] #[]))
    (q : ∀ w' : World, Below w.heap.size w w' → Calls Tryz.prog 88 #[.agg #[.map (some b1), .map (some b2), .slice hp.a hp.len hp.cap, .slice hg.a hg.len hg.cap], .agg #[.slice x.h0.a x.h0.len x.h0.cap, .int .i64 x.t.f1, .bool x.t.f2]] w' fun e w'' => RetB e (P x) ∧ Below w'.heap.size w' w'') :
    Calls Tryz.prog 112 #[.agg #[.slice x.h0.a x.h0.len x.h0.cap, .int .i64 x.t.f1, .bool x.t.f2], .pointer (some ⟨b, 0, none⟩)] w fun e w' => RetB e (¬ P x) ∧ Below w.heap.size w w' := by
  have HB := hide (bAl (Below.refl w.heap.size w) (.cells #[.slice x.h0.a x.h0.len x.h0.cap, .int .i64 x.t.f1, .bool x.t.f2] 109))
  have zb : b < w.heap.size := World.block_lt_of_cell? w ⟨b, 0, none⟩ hc
  have Q := hide (q _ (unhide HB))
  clear q
  go_enter Tryz.func112, Tryz.ntmps112
  go_wp2_with fail
  refine (unhide Q).mono ?_
  rintro e w1 ⟨⟨v, rfl, hv⟩, hb⟩
  have B1 := hide (bTr (unhide HB) hb)
  have HV := hide hv
  clear hb HB Q hc hv
  go_wp2_with fail
  go_ret
  refine ⟨retB (b := !v) ?_, unhide B1⟩
  rw [← unhide HV]; cases v <;> simp
set_option maxHeartbeats 1000000 in
theorem indexBad_gap (b1 b2 : Nat) (hp hg : Hd) (P : ApartE → Prop) (b : Nat) (h : Hd) (l : List ApartE) (w : World) (hl : l.length ≤ maxLen) (hs : SqApartE w 0 h l) (hc : w.cell? ⟨b, 0, none⟩ = some (.func (.func 88) #[.agg #[.map (some b1), .map (some b2), .slice hp.a hp.len hp.cap, .slice hg.a hg.len hg.cap]] #[]))
    (q : ∀ x ∈ l, ∀ w' : World, Below w.heap.size w w' → Calls Tryz.prog 88 #[.agg #[.map (some b1), .map (some b2), .slice hp.a hp.len hp.cap, .slice hg.a hg.len hg.cap], .agg #[.slice x.h0.a x.h0.len x.h0.cap, .int .i64 x.t.f1, .bool x.t.f2]] w' fun e w'' => RetB e (P x) ∧ Below w'.heap.size w' w'') :
    Calls Tryz.prog 123 #[.slice h.a h.len h.cap, .func (.func 112) #[] #[.pointer (some ⟨b, 0, none⟩)]] w fun e w' => (∃ v : Int, e = .returned (.int .i64 v) ∧ (0 ≤ v ↔ ¬ ∀ x ∈ l, P x)) ∧ Below w.heap.size w w' := by
  have HS := hide hs
  have zb : b < w.heap.size := World.block_lt_of_cell? w ⟨b, 0, none⟩ hc
  have HC := hide (fun (w' : World) (h : Below w.heap.size w w') => cellB (w' := w') h zb hc)
  have HQ := hide q
  have HL := hide hs.1
  have hlm : h.len ≤ maxLen := by rw [hs.1]; exact hl
  unfold maxLen at hlm
  obtain ⟨a, len, cap⟩ := h
  simp only at hlm HL
  clear hs hc q hl
  go_enter Tryz.func123, Tryz.ntmps123
  go_wp2_with fail
  go_loopw [8] (fun i w' => ∃ k : Nat, k ≤ len ∧ i = .int .i64 k ∧ Hid (Below w.heap.size w w') ∧ Hid (∀ i (h : i < l.length), i < k → P l[i])) (fun i _ => len - (Go.RowKit.intOf i).toNat)
  case atStart => exact ⟨0, Nat.zero_le _, rfl, hide (Below.refl _ _), hide (fun i _ h => absurd h (Nat.not_lt_zero _))⟩
  case round =>
    obtain ⟨k, hk, rfl, hb, hA⟩ := hrel
    by_cases hlt : k < len
    · have hk' : k < l.length := by have := unhide HL; omega
      obtain ⟨bb_, off, e0, hrow⟩ := ((unhide HS).keep (unhide hb)).at hlt
      simp only at e0
      subst e0
      have c0 := hrow.c0 k hk'
      have c1 := hrow.c1 k hk'
      have c2 := hrow.c2 k hk'
      have zk := hrow.z
      have q := hide (notGood_gap b1 b2 hp hg P b l[k] wr (unhide HC _ (unhide hb)) (fun w' h => unhide HQ _ (List.getElem_mem hk') w' (bTr (unhide hb) h)))
      have eS : Hid (P l[k] → ∀ i (h : i < l.length), i < k + 1 → P l[i]) := hide (fun g i hi h1 => by
        rcases Nat.lt_or_ge i k with h2 | h2
        · exact unhide hA i hi h2
        · obtain rfl : i = k := by omega
          exact g)
      have eN : Hid (¬ P l[k] → ¬ ∀ x ∈ l, P x) := hide (fun g h => g (h _ (List.getElem_mem hk')))
      clear hrow
      generalize l[k] = A at *
      go_wp2_with fail
      refine (unhide q).mono ?_
      rintro e w1 ⟨⟨v, rfl, hv⟩, hb1⟩
      have B1 := hide (bTr (unhide hb) hb1)
      have HV := hide hv
      clear hb1 q hv c0 c1 c2
      cases v
      · have S := hide (unhide eS (Classical.byContradiction fun h => by have := (unhide HV).2 h; cases this))
        clear eS eN HV
        go_wp2_with fail
        exact ⟨⟨k + 1, by omega, by go_num, B1, S⟩, by simp [Go.RowKit.intOf]; omega⟩
      · have N := hide (unhide eN ((unhide HV).1 rfl))
        clear eS eN HV
        go_wp2_with fail
        go_ret
        exact ⟨⟨_, rfl, fun _ => unhide N, fun _ => by omega⟩, unhide B1⟩
    · have S : Hid (∀ x ∈ l, P x) := hide (fun x hx => by
        obtain ⟨i, hi, rfl⟩ := List.getElem_of_mem hx
        exact unhide hA i hi (by have := unhide HL; omega))
      go_wp2_with fail
      go_ret
      exact ⟨⟨_, rfl, fun h => absurd h (by decide), fun h => absurd (unhide S) h⟩, unhide hb⟩
set_option maxHeartbeats 1000000 in
theorem goodList_gap (b1 b2 : Nat) (hp hg : Hd) (P : ApartE → Prop) (most : Int) (h : Hd) (l : List ApartE) (w : World) (hl : l.length ≤ maxLen) (hs : SqApartE w 0 h l)
    (q : ∀ x ∈ l, ∀ w' : World, Below w.heap.size w w' → Calls Tryz.prog 88 #[.agg #[.map (some b1), .map (some b2), .slice hp.a hp.len hp.cap, .slice hg.a hg.len hg.cap], .agg #[.slice x.h0.a x.h0.len x.h0.cap, .int .i64 x.t.f1, .bool x.t.f2]] w' fun e w'' => RetB e (P x) ∧ Below w'.heap.size w' w'') :
    Calls Tryz.prog 87 #[.slice h.a h.len h.cap, .int .i64 most, .func (.func 88) #[.agg #[.map (some b1), .map (some b2), .slice hp.a hp.len hp.cap, .slice hg.a hg.len hg.cap]] #[]] w fun e w' => RetB e ((l.length : Int) ≤ most ∧ ∀ x ∈ l, P x) ∧ Below w.heap.size w w' := by
  have HS := hide hs
  have HQ := hide q
  have HL := hide hs.1
  have HM := hide hl
  clear hs q hl
  by_cases h200 : (h.len : Int) ≤ most
  · obtain ⟨W, hW⟩ : ∃ W, W = w.alloc (.cells #[.func (.func 88) #[.agg #[.map (some b1), .map (some b2), .slice hp.a hp.len hp.cap, .slice hg.a hg.len hg.cap]] #[]] 145) := ⟨_, rfl⟩
    have R := show RowIs W w.heap.size #[.func (.func 88) #[.agg #[.map (some b1), .map (some b2), .slice hp.a hp.len hp.cap, .slice hg.a hg.len hg.cap]] #[]] 145 by rw [hW]; exact RowIs.new _ _ _
    have B := hide (show Below w.heap.size w W by rw [hW]; exact bAl (Below.refl _ _) _)
    have HW := hide hW.symm
    clear hW
    have q := hide (fun hc => indexBad_gap b1 b2 hp hg P w.heap.size h l W (unhide HM) ((unhide HS).keep (unhide B)) hc (fun x hx w' h => unhide HQ x hx w' (bTr (unhide B) h)))
    have q2 : Hid (Calls Tryz.prog 111 #[.slice h.a h.len h.cap, .func (.func 112) #[] #[.pointer (some ⟨w.heap.size, 0, none⟩)]] W fun e w' => (∃ v : Bool, e = .returned (.bool v) ∧ (v = true ↔ ¬ ∀ x ∈ l, P x)) ∧ Below W.heap.size W w') := hide (by
      have q := hide (unhide q (R.at (o := 0) rfl))
      go_enter Tryz.func111, Tryz.ntmps111
      go_wp2_with fail
      refine (unhide q).mono ?_
      rintro e w1 ⟨⟨v, rfl, hv⟩, hb⟩
      have HV := hide hv
      clear hv
      go_wp2_with fail
      go_ret
      exact ⟨⟨decide (0 ≤ v), rfl, by rw [decide_eq_true_iff]; exact unhide HV⟩, hb⟩)
    have hst := @run_store Tryz.prog
    clear q R
    go_enter Tryz.func87, Tryz.ntmps87
    go_wp2_with fail
    rw [unhide HW]
    refine (unhide q2).mono ?_
    rintro e w1 ⟨⟨v, rfl, hv⟩, hb⟩
    have HV := hide hv
    have B1 := hide (bTr (unhide B) hb)
    clear hv hb q2 hst HW B
    go_wp2_with fail
    go_ret
    have hle := unhide HL
    refine ⟨retB (b := !v) ⟨fun h => ?_, fun h => ?_⟩, unhide B1⟩
    · cases v
      · refine ⟨by omega, ?_⟩
        have := unhide HV
        exact Classical.byContradiction fun hn => by have := this.2 hn; cases this
      · cases h
    · cases v
      · rfl
      · exact absurd h.2 ((unhide HV).1 rfl)
  · have d : decide ((h.len : Int) ≤ most) = false := by simpa using h200
    have B := hide (bAl (Below.refl w.heap.size w) (.cells #[.func (.func 88) #[.agg #[.map (some b1), .map (some b2), .slice hp.a hp.len hp.cap, .slice hg.a hg.len hg.cap]] #[]] 145))
    have hst := @run_store Tryz.prog
    go_enter Tryz.func87, Tryz.ntmps87
    go_wp2_with fail
    go_ret
    have hle := unhide HL
    exact ⟨retB (b := false) ⟨fun h => (by cases h), fun h => absurd h.1 (by omega)⟩, unhide B⟩
set_option maxHeartbeats 1000000 in
theorem isAbove_n (bc b1 b2 : Nat) (hp hg : Hd) (ns : List ByteArray) (e : RoleE) (w : World) (hn : RoleN e.t) (hm : RoleM w 0 e) (hc : RowIs w bc #[.map (some b1), .map (some b2), .slice hp.a hp.len hp.cap, .slice hg.a hg.len hg.cap] 68) (hk : KT w b2 ns) :
    Calls Tryz.prog 83 #[.agg #[.string e.t.f0, .slice e.h1.a e.h1.len e.h1.cap, .slice e.h2.a e.h2.len e.h2.cap], .pointer (some ⟨bc, 0, none⟩)] w fun r w' => RetB r (AllR ns e.t.f1) ∧ Below w.heap.size w w' := by
  have B := hide (bAl (Below.refl w.heap.size w) (.cells #[.string e.t.f0, .slice e.h1.a e.h1.len e.h1.cap, .slice e.h2.a e.h2.len e.h2.cap] 103))
  have r1 := hc.keep (unhide B)
  have c0 := r1.at (o := 0) (v := .map (some b1)) rfl
  have c1 := r1.at (o := 1) (v := .map (some b2)) rfl
  have c2 := r1.at (o := 2) (v := .slice hp.a hp.len hp.cap) rfl
  have c3 := r1.at (o := 3) (v := .slice hg.a hg.len hg.cap) rfl
  have q := hide (areRoles_n b1 b2 hp hg ns e.h1 e.t.f1 _ hn.l1 hn.o1 (hk.keep (unhide B)) (hm.m1.keep (unhide B)))
  generalize AllR ns e.t.f1 = G at q ⊢
  clear hn hm hc hk r1
  go_enter Tryz.func83, Tryz.ntmps83
  go_wp2_with fail
  refine (unhide q).mono ?_
  rintro r w1 ⟨⟨v, rfl, hv⟩, hb⟩
  have HV := hide hv
  replace B := hide (bTr (unhide B) hb)
  clear hv hb q c0 c1 c2 c3
  go_wp2_with fail
  go_ret
  exact ⟨retB (unhide HV), unhide B⟩
end Go.Proofs.YtfbncneeimikcaaGreat.V
/- A block of many cells that is loaded in a region that draws. -/
namespace Go.Proofs.YtfbncneeimikcaaGreat.V
open Go.RowKit

theorem yields_row {P : Program} {ops : Array Oper} {S : World → Prop} {op : Oper} {a : Act} (hw : Region.wanted op (yielded ops a.tmps) = true) (ty : TypeId) (x : Operand) (ho : op.op = .load ty x)
    (g : Nat) (hx : a.eval x = .pointer (some ⟨g, 0, none⟩)) (t : TypeId) (cs : Array Value) (d : TypeDesc) (hS : ∀ w, S w → RowIs w g cs t)
    (hu : P.underlying ty = some d) (hd : (match d with | .struct _ | .array _ _ => true | _ => false) = true) (hi : (P.info? ty).map (·.size) = some cs.size) : YieldsIf P ops S op (.agg cs) a :=
  .inl ⟨hw, fun w hw' => by
    unfold execOp
    simp only [ho, hx, Instr.loadAt, Instr.sureAddr, Sem.run_bind, Sem.run_pure, Result.andThen_ok, run_loadVar_row w g t ty cs (0, 0) d (hS w hw') hu hd hi]⟩
def EntY (N : FuncId) : Prop := ∀ (args : Array Value) (w : World), (callFunc N args).run Tryz.prog w = .ok (.enter N args) w
theorem entY_of {N : FuncId} {fn : Func} (hf : Tryz.prog.funcs[N]? = some fn) (hname : (fn.name == "runtime.NumGoroutine") = false) (hb : fn.body.isNone = false) : EntY N := by
  intro args w
  have h1 : fn.name ≠ "runtime.NumGoroutine" := by simpa using hname
  have h2 : fn.body ≠ none := fun e => by rw [e] at hb; cases hb
  simp [callFunc, hf, h1, h2]
theorem step_call1 (w : World) {ops : Array Oper} {o : Oper} {a : Act} {K : Act → World → Prop} {Q : Exit → Act → World → Prop} {E : Prop} (hgd : o.guard = none) (f : FuncId) (x0 : Operand) (ts : Array TypeId)
    (ho : o.op = .call { callee := .value (.func f), args := #[x0], argTypes := ts }) (v0 : Value) (h0 : a.eval x0 = v0) (hen : EntY f) {R : Ending → World → Prop} (hc : Calls Tryz.prog f #[v0] w R)
    (h : ∀ e w', R e w' → ∃ v, e = .returned v ∧ K (a.put o.dst v) w') :
    if Region.wanted o (yielded ops a.tmps) = true then Oper.wp Tryz.prog o a w K Q else E := by
  have hw : Region.wanted o (yielded ops a.tmps) = true := by simp [Region.wanted, hgd]
  rw [if_pos hw]
  have hr : (execOp a.eval o).run Tryz.prog w = .ok (.enter f #[v0]) w := by
    have he := hen #[v0] w
    have hf : a.eval (.func f) = .func (.func f) #[] #[] := rfl
    unfold execOp
    simp only [ho, resolve, invoke, Deferred.ofValue, Sem.run_bind, Sem.run_pure, Result.andThen_ok, List.map_toArray, List.map_cons, List.map_nil, h0, hf]
    have e2 : (#[v0] ++ #[] : Array Value) = #[v0] := by simp
    first | exact he | (rw [e2]; exact he) | (simp; exact he)
  unfold Oper.wp
  rw [hr, Oper.upon_enter]
  refine hc.mono ?_
  intro e w' hR
  obtain ⟨v, rfl, hK⟩ := h e w' hR
  exact hK
theorem step_call2 (w : World) {ops : Array Oper} {o : Oper} {a : Act} {K : Act → World → Prop} {Q : Exit → Act → World → Prop} {E : Prop} (hgd : o.guard = none) (f : FuncId) (x0 x1 : Operand) (ts : Array TypeId)
    (ho : o.op = .call { callee := .value (.func f), args := #[x0, x1], argTypes := ts }) (v0 v1 : Value) (h0 : a.eval x0 = v0) (h1 : a.eval x1 = v1) (hen : EntY f) {R : Ending → World → Prop} (hc : Calls Tryz.prog f #[v0, v1] w R)
    (h : ∀ e w', R e w' → ∃ v, e = .returned v ∧ K (a.put o.dst v) w') :
    if Region.wanted o (yielded ops a.tmps) = true then Oper.wp Tryz.prog o a w K Q else E := by
  have hw : Region.wanted o (yielded ops a.tmps) = true := by simp [Region.wanted, hgd]
  rw [if_pos hw]
  have hr : (execOp a.eval o).run Tryz.prog w = .ok (.enter f #[v0, v1]) w := by
    have he := hen #[v0, v1] w
    have hf : a.eval (.func f) = .func (.func f) #[] #[] := rfl
    unfold execOp
    simp only [ho, resolve, invoke, Deferred.ofValue, Sem.run_bind, Sem.run_pure, Result.andThen_ok, List.map_toArray, List.map_cons, List.map_nil, h0, h1, hf]
    have e2 : (#[v0, v1] ++ #[] : Array Value) = #[v0, v1] := by simp
    first | exact he | (rw [e2]; exact he) | (simp; exact he)
  unfold Oper.wp
  rw [hr, Oper.upon_enter]
  refine hc.mono ?_
  intro e w' hR
  obtain ⟨v, rfl, hK⟩ := h e w' hR
  exact hK
end Go.Proofs.YtfbncneeimikcaaGreat.V
