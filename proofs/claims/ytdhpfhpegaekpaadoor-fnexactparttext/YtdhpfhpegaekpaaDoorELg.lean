/- Documents: a good element, by the program. -/
import Derived.Test.YtdhpfhpegaekpaaDoorELd
namespace Go.Proofs.YtdhpfhpegaekpaaDoor.V
set_option linter.unusedSimpArgs false
set_option linter.unusedVariables false
set_option maxRecDepth 20000
open Go.RowKit

theorem betD_any (a b c : Int) (w : World) : Calls Tryd.prog 20 #[.int .i64 a, .int .i64 b, .int .i64 c] w fun e w' => e = .returned (.bool (decide (a ≤ b ∧ b ≤ c))) ∧ w = w' := by
  by_cases h1 : a ≤ b <;> by_cases h2 : b ≤ c
  all_goals
    go_enter Tryd.func20, Tryd.ntmps20
    go_wp2
    go_ret
    exact ⟨by simp [h1, h2], rfl⟩
theorem iName_ret (s : ByteArray) (hs : s.size ≤ maxLen) (w : World) : Calls Tryd.prog 45 #[.string s] w fun e w' => RetB e (GNm s) ∧ Below w.heap.size w w' :=
  (iGoodName_any s hs w).mono fun e w' ⟨h1, h2⟩ => ⟨⟨_, h1, Iff.rfl⟩, h2⟩
theorem iText_ret (s : ByteArray) (hs : s.size ≤ maxLen) (w : World) : Calls Tryd.prog 50 #[.string s] w fun e w' => RetB e (GTx s) ∧ Below w.heap.size w w' :=
  (goodText_any s hs w).mono fun e w' ⟨h1, h2⟩ => ⟨⟨_, h1, Iff.rfl⟩, h2⟩
set_option maxHeartbeats 1000000 in
theorem notGood_txt  (P : ByteArray → Prop) (b : Nat) (x : ByteArray) (w : World) (hc : w.cell? ⟨b, 0, none⟩ = some (.func (.func 50) #[] #[]))
    (q : ∀ w' : World, Below w.heap.size w w' → Calls Tryd.prog 50 #[.string x] w' fun e w'' => RetB e (P x) ∧ Below w'.heap.size w' w'') :
    Calls Tryd.prog 60 #[.string x, .pointer (some ⟨b, 0, none⟩)] w fun e w' => RetB e (¬ P x) ∧ Below w.heap.size w w' := by
  have HB := hide (Below.refl w.heap.size w)
  have zb : b < w.heap.size := World.block_lt_of_cell? w ⟨b, 0, none⟩ hc
  have Q := hide (q _ (unhide HB))
  clear q
  go_enter Tryd.func60, Tryd.ntmps60
  go_wp2_with fail
  refine (unhide Q).mono ?_
  rintro e w1 ⟨⟨v, rfl, hv⟩, hb⟩
  have B1 := hide (bTr (unhide HB) hb)
  have HV := hide hv
  clear hb HB Q hc hv
  go_wp2_with fail
  go_ret
  refine ⟨retB (b := !v) ?_, unhide B1⟩
  rw [← unhide HV]; cases v <;> simp
set_option maxHeartbeats 1000000 in
theorem indexBad_txt  (P : ByteArray → Prop) (b : Nat) (h : Hd) (l : List ByteArray) (w : World) (hl : l.length ≤ maxLen) (hs : SqS w 0 h l) (hc : w.cell? ⟨b, 0, none⟩ = some (.func (.func 50) #[] #[]))
    (q : ∀ x ∈ l, ∀ w' : World, Below w.heap.size w w' → Calls Tryd.prog 50 #[.string x] w' fun e w'' => RetB e (P x) ∧ Below w'.heap.size w' w'') :
    Calls Tryd.prog 67 #[.slice h.a h.len h.cap, .func (.func 60) #[] #[.pointer (some ⟨b, 0, none⟩)]] w fun e w' => (∃ v : Int, e = .returned (.int .i64 v) ∧ (0 ≤ v ↔ ¬ ∀ x ∈ l, P x)) ∧ Below w.heap.size w w' := by
  have HS := hide hs
  have zb : b < w.heap.size := World.block_lt_of_cell? w ⟨b, 0, none⟩ hc
  have HC := hide (fun (w' : World) (h : Below w.heap.size w w') => cellB (w' := w') h zb hc)
  have HQ := hide q
  have HL := hide hs.1
  have hlm : h.len ≤ maxLen := by rw [hs.1]; exact hl
  unfold maxLen at hlm
  obtain ⟨a, len, cap⟩ := h
  simp only at hlm HL
  clear hs hc q hl
  go_enter Tryd.func67, Tryd.ntmps67
  go_wp2_with fail
  go_loopw [8] (fun i w' => ∃ k : Nat, k ≤ len ∧ i = .int .i64 k ∧ Hid (Below w.heap.size w w') ∧ Hid (∀ i (h : i < l.length), i < k → P l[i])) (fun i _ => len - (Go.RowKit.intOf i).toNat)
  case atStart => exact ⟨0, Nat.zero_le _, rfl, hide (Below.refl _ _), hide (fun i _ h => absurd h (Nat.not_lt_zero _))⟩
  case round =>
    obtain ⟨k, hk, rfl, hb, hA⟩ := hrel
    by_cases hlt : k < len
    · have hk' : k < l.length := by have := unhide HL; omega
      obtain ⟨bb_, off, e0, hrow⟩ := ((unhide HS).keep (unhide hb)).sl.at hlt
      simp only at e0
      subst e0
      have c0 := hrow.c k hk'
      have zk := hrow.z
      have q := hide (notGood_txt  P b l[k] wr (unhide HC _ (unhide hb)) (fun w' h => unhide HQ _ (List.getElem_mem hk') w' (bTr (unhide hb) h)))
      have eS : Hid (P l[k] → ∀ i (h : i < l.length), i < k + 1 → P l[i]) := hide (fun g i hi h1 => by
        rcases Nat.lt_or_ge i k with h2 | h2
        · exact unhide hA i hi h2
        · obtain rfl : i = k := by omega
          exact g)
      have eN : Hid (¬ P l[k] → ¬ ∀ x ∈ l, P x) := hide (fun g h => g (h _ (List.getElem_mem hk')))
      clear hrow
      generalize l[k] = A at *
      go_wp2_with fail
      refine (unhide q).mono ?_
      rintro e w1 ⟨⟨v, rfl, hv⟩, hb1⟩
      have B1 := hide (bTr (unhide hb) hb1)
      have HV := hide hv
      clear hb1 q hv c0
      cases v
      · have S := hide (unhide eS (Classical.byContradiction fun h => by have := (unhide HV).2 h; cases this))
        clear eS eN HV
        go_wp2_with fail
        exact ⟨⟨k + 1, by omega, by go_num, B1, S⟩, by simp [Go.RowKit.intOf]; omega⟩
      · have N := hide (unhide eN ((unhide HV).1 rfl))
        clear eS eN HV
        go_wp2_with fail
        go_ret
        exact ⟨⟨_, rfl, fun _ => unhide N, fun _ => by omega⟩, unhide B1⟩
    · have S : Hid (∀ x ∈ l, P x) := hide (fun x hx => by
        obtain ⟨i, hi, rfl⟩ := List.getElem_of_mem hx
        exact unhide hA i hi (by have := unhide HL; omega))
      go_wp2_with fail
      go_ret
      exact ⟨⟨_, rfl, fun h => absurd h (by decide), fun h => absurd (unhide S) h⟩, unhide hb⟩
set_option maxHeartbeats 1000000 in
theorem goodList_txt  (P : ByteArray → Prop) (most : Int) (h : Hd) (l : List ByteArray) (w : World) (hl : l.length ≤ maxLen) (hs : SqS w 0 h l)
    (q : ∀ x ∈ l, ∀ w' : World, Below w.heap.size w w' → Calls Tryd.prog 50 #[.string x] w' fun e w'' => RetB e (P x) ∧ Below w'.heap.size w' w'') :
    Calls Tryd.prog 46 #[.slice h.a h.len h.cap, .int .i64 most, .func (.func 50) #[] #[]] w fun e w' => RetB e ((l.length : Int) ≤ most ∧ ∀ x ∈ l, P x) ∧ Below w.heap.size w w' := by
  have HS := hide hs
  have HQ := hide q
  have HL := hide hs.1
  have HM := hide hl
  clear hs q hl
  by_cases h200 : (h.len : Int) ≤ most
  · obtain ⟨W, hW⟩ : ∃ W, W = w.alloc (.cells #[.func (.func 50) #[] #[]] 61) := ⟨_, rfl⟩
    have R := show RowIs W w.heap.size #[.func (.func 50) #[] #[]] 61 by rw [hW]; exact RowIs.new _ _ _
    have B := hide (show Below w.heap.size w W by rw [hW]; exact bAl (Below.refl _ _) _)
    have HW := hide hW.symm
    clear hW
    have q := hide (fun hc => indexBad_txt  P w.heap.size h l W (unhide HM) ((unhide HS).keep (unhide B)) hc (fun x hx w' h => unhide HQ x hx w' (bTr (unhide B) h)))
    have q2 : Hid (Calls Tryd.prog 59 #[.slice h.a h.len h.cap, .func (.func 60) #[] #[.pointer (some ⟨w.heap.size, 0, none⟩)]] W fun e w' => (∃ v : Bool, e = .returned (.bool v) ∧ (v = true ↔ ¬ ∀ x ∈ l, P x)) ∧ Below W.heap.size W w') := hide (by
      have q := hide (unhide q (R.at (o := 0) rfl))
      go_enter Tryd.func59, Tryd.ntmps59
      go_wp2_with fail
      refine (unhide q).mono ?_
      rintro e w1 ⟨⟨v, rfl, hv⟩, hb⟩
      have HV := hide hv
      clear hv
      go_wp2_with fail
      go_ret
      exact ⟨⟨decide (0 ≤ v), rfl, by rw [decide_eq_true_iff]; exact unhide HV⟩, hb⟩)
    have hst := @run_store Tryd.prog
    clear q R
    go_enter Tryd.func46, Tryd.ntmps46
    go_wp2_with fail
    rw [unhide HW]
    refine (unhide q2).mono ?_
    rintro e w1 ⟨⟨v, rfl, hv⟩, hb⟩
    have HV := hide hv
    have B1 := hide (bTr (unhide B) hb)
    clear hv hb q2 hst HW B
    go_wp2_with fail
    go_ret
    have hle := unhide HL
    refine ⟨retB (b := !v) ⟨fun h => ?_, fun h => ?_⟩, unhide B1⟩
    · cases v
      · refine ⟨by omega, ?_⟩
        have := unhide HV
        exact Classical.byContradiction fun hn => by have := this.2 hn; cases this
      · cases h
    · cases v
      · rfl
      · exact absurd h.2 ((unhide HV).1 rfl)
  · have d : decide ((h.len : Int) ≤ most) = false := by simpa using h200
    have B := hide (bAl (Below.refl w.heap.size w) (.cells #[.func (.func 50) #[] #[]] 61))
    have hst := @run_store Tryd.prog
    go_enter Tryd.func46, Tryd.ntmps46
    go_wp2_with fail
    go_ret
    have hle := unhide HL
    exact ⟨retB (b := false) ⟨fun h => (by cases h), fun h => absurd h.1 (by omega)⟩, unhide B⟩
set_option maxHeartbeats 400000 in
theorem every_txt  (P : ByteArray → Prop) (h : Hd) (l : List ByteArray) (w : World) (hl : l.length ≤ maxLen) (hs : SqS w 0 h l)
    (q : ∀ x ∈ l, ∀ w' : World, Below w.heap.size w w' → Calls Tryd.prog 50 #[.string x] w' fun e w'' => RetB e (P x) ∧ Below w'.heap.size w' w'') :
    Calls Tryd.prog 49 #[.slice h.a h.len h.cap, .func (.func 50) #[] #[]] w fun e w' => RetB e (∀ x ∈ l, P x) ∧ Below w.heap.size w w' := by
  have Q := hide (goodList_txt  P h.len h l w hl hs q)
  have HL := hide hs.1
  clear hs q hl
  go_enter Tryd.func49, Tryd.ntmps49
  go_wp2_with fail
  refine (unhide Q).mono ?_
  rintro e w1 ⟨⟨v, rfl, hv⟩, hb⟩
  have HV := hide hv
  clear hv Q
  go_wp2_with fail
  go_ret
  exact ⟨retB (b := v) ((unhide HV).trans ⟨fun h => h.2, fun h => ⟨by have := unhide HL; omega, h⟩⟩), hb⟩

set_option maxHeartbeats 4000000 in
theorem isGood_any (x : ElemE) (w : World) (hn : ElemN x.t) (hm : ElemM w 0 x) :
    Calls Tryd.prog 34 #[.agg #[.string x.t.f0, .string x.t.f1, .slice x.h2.a x.h2.len x.h2.cap, .slice x.h3.a x.h3.len x.h3.cap, .int .i64 x.t.f4]] w fun e w' => RetB e (EG x.t) ∧ Below w.heap.size w w' := by
  obtain ⟨W1, hW1⟩ : ∃ W, W = w.alloc (.cells #[.string x.t.f0, .string x.t.f1, .slice x.h2.a x.h2.len x.h2.cap, .slice x.h3.a x.h3.len x.h3.cap, .int .i64 x.t.f4] 35) := ⟨_, rfl⟩
  have b1 : Below w.heap.size w W1 := by rw [hW1]; exact bAl (Below.refl _ _) _
  have R1 := hide (show RowIs W1 w.heap.size #[.string x.t.f0, .string x.t.f1, .slice x.h2.a x.h2.len x.h2.cap, .slice x.h3.a x.h3.len x.h3.cap, .int .i64 x.t.f4] 35 by rw [hW1]; exact RowIs.new _ _ _)
  have HW1 := hide hW1.symm
  have B1 := hide b1
  have q1 := hide (fun w => iName_ret x.t.f0 hn.o0 w)
  have q2 := hide (fun (w' : World) (hb : Below w.heap.size w w') => goodList_nam GNm 8 x.h2 x.t.f2 w' hn.l2 (hm.m2.keep hb) (fun y hy w2 _ => iName_ret y (hn.o2 y hy) w2))
  have q3 := hide (fun (w' : World) (hb : Below w.heap.size w w') => rising_str (fun a b => cmpT a.data.toList b.data.toList) x.h2 x.t.f2 w' hn.l2 (hm.m2.keep hb) (fun y hy z hz w2 _ => (stringsCompare_any y z w2).mono fun e w3 ⟨h1, h2⟩ => ⟨h1, by rw [← h2]; exact Below.refl _ _⟩))
  have q5 := hide (fun (w' : World) (hb : Below w.heap.size w w') => every_txt GTx x.h3 x.t.f3 w' hn.l3 (hm.m3.keep hb) (fun y hy w2 _ => iText_ret y (hn.o3 y hy) w2))
  have q6 := hide (fun w => betD_any 0 x.t.f4 20 w)
  have q7 := hide (fun w => iText_ret x.t.f1 hn.o1 w)
  have L2 := hide hm.m2.1
  have L3 := hide hm.m3.1
  have fin := hide (show EG x.t ↔ (GNm x.t.f0 ∧ ((x.t.f2.length : Int) ≤ 8 ∧ ∀ q ∈ x.t.f2, GNm q) ∧ RisE x.t.f2 ∧ x.h3.len = x.h2.len ∧ (∀ q ∈ x.t.f3, GTx q) ∧ decide (0 ≤ x.t.f4 ∧ x.t.f4 ≤ 20) = true ∧ GTx x.t.f1 ∧ (x.t.f4 = 0 ∨ x.t.f1 = ⟨#[]⟩)) from by
    have h2 := hm.m2.1
    have h3 := hm.m3.1
    constructor
    · rintro ⟨⟨a, b, c, d, e, f, g, h⟩, k⟩
      exact ⟨a, ⟨by omega, c⟩, d, by omega, f, by simpa using k, g, h.elim (fun h => .inr h) (fun h => .inl (by omega))⟩
    · rintro ⟨a, ⟨b, c⟩, d, e, f, k, g, h⟩
      have k' : 0 ≤ x.t.f4 ∧ x.t.f4 ≤ 20 := by simpa using k
      exact ⟨⟨a, by omega, c, d, by omega, f, g, h.elim (fun h => .inr (by omega)) (fun h => .inl h)⟩, k'⟩)
  clear hn hm hW1 b1
  go_enter Tryd.func34, Tryd.ntmps34
  go_upto_region 1 with fail
  refine wp_worldD (unhide HW1) ?_
  clear HW1
  have e0 := (unhide R1).at (o := 0) (v := .string x.t.f0) rfl
  have e1 := (unhide R1).at (o := 1) (v := .string x.t.f1) rfl
  have e2 := (unhide R1).at (o := 2) (v := .slice x.h2.a x.h2.len x.h2.cap) rfl
  have e3 := (unhide R1).at (o := 3) (v := .slice x.h3.a x.h3.len x.h3.cap) rfl
  have e4 := (unhide R1).at (o := 4) (v := .int .i64 x.t.f4) rfl
  have ez := (unhide R1).lt
  go_wp2_with fail
  refine (unhide q1 _).mono ?_
  rintro e w2 ⟨⟨b, rfl, hb⟩, bb⟩
  have F1 := hide hb
  have B2 := hide (bTr (unhide B1) bb)
  have R2 := hide ((unhide R1).keep bb)
  clear e0 e1 e2 e3 e4 ez
  clear hb bb R1 B1
  have e0 := (unhide R2).at (o := 0) (v := .string x.t.f0) rfl
  have e1 := (unhide R2).at (o := 1) (v := .string x.t.f1) rfl
  have e2 := (unhide R2).at (o := 2) (v := .slice x.h2.a x.h2.len x.h2.cap) rfl
  have e3 := (unhide R2).at (o := 3) (v := .slice x.h3.a x.h3.len x.h3.cap) rfl
  have e4 := (unhide R2).at (o := 4) (v := .int .i64 x.t.f4) rfl
  have ez := (unhide R2).lt
  cases b with
  | false =>
    go_wp2_with fail
    go_ret
    exact ⟨retB (b := false) ⟨fun h => (by cases h), fun h => (by obtain ⟨f1, f2, f3, f4, f5, f6, f7, f8⟩ := (unhide fin).1 h; have := (unhide F1).2 f1; cases this)⟩, unhide B2⟩
  | true =>
  clear e0 e1 e2 e3 e4 ez
  have e0 := (unhide R2).at (o := 0) (v := .string x.t.f0) rfl
  have e1 := (unhide R2).at (o := 1) (v := .string x.t.f1) rfl
  have e2 := (unhide R2).at (o := 2) (v := .slice x.h2.a x.h2.len x.h2.cap) rfl
  have e3 := (unhide R2).at (o := 3) (v := .slice x.h3.a x.h3.len x.h3.cap) rfl
  have e4 := (unhide R2).at (o := 4) (v := .int .i64 x.t.f4) rfl
  have ez := (unhide R2).lt
  go_wp2_with fail
  refine (unhide q2 _ (unhide B2)).mono ?_
  rintro e w3 ⟨⟨b, rfl, hb⟩, bb⟩
  have F2 := hide hb
  have B3 := hide (bTr (unhide B2) bb)
  have R3 := hide ((unhide R2).keep bb)
  clear e0 e1 e2 e3 e4 ez
  clear hb bb R2 B2
  have e0 := (unhide R3).at (o := 0) (v := .string x.t.f0) rfl
  have e1 := (unhide R3).at (o := 1) (v := .string x.t.f1) rfl
  have e2 := (unhide R3).at (o := 2) (v := .slice x.h2.a x.h2.len x.h2.cap) rfl
  have e3 := (unhide R3).at (o := 3) (v := .slice x.h3.a x.h3.len x.h3.cap) rfl
  have e4 := (unhide R3).at (o := 4) (v := .int .i64 x.t.f4) rfl
  have ez := (unhide R3).lt
  cases b with
  | false =>
    go_wp2_with fail
    go_ret
    exact ⟨retB (b := false) ⟨fun h => (by cases h), fun h => (by obtain ⟨f1, f2, f3, f4, f5, f6, f7, f8⟩ := (unhide fin).1 h; have := (unhide F2).2 f2; cases this)⟩, unhide B3⟩
  | true =>
  clear e0 e1 e2 e3 e4 ez
  have e0 := (unhide R3).at (o := 0) (v := .string x.t.f0) rfl
  have e1 := (unhide R3).at (o := 1) (v := .string x.t.f1) rfl
  have e2 := (unhide R3).at (o := 2) (v := .slice x.h2.a x.h2.len x.h2.cap) rfl
  have e3 := (unhide R3).at (o := 3) (v := .slice x.h3.a x.h3.len x.h3.cap) rfl
  have e4 := (unhide R3).at (o := 4) (v := .int .i64 x.t.f4) rfl
  have ez := (unhide R3).lt
  go_wp2_with fail
  refine (unhide q3 _ (unhide B3)).mono ?_
  rintro e w4 ⟨⟨b, rfl, hb⟩, bb⟩
  have F3 := hide hb
  have B4 := hide (bTr (unhide B3) bb)
  have R4 := hide ((unhide R3).keep bb)
  clear e0 e1 e2 e3 e4 ez
  clear hb bb R3 B3
  have e0 := (unhide R4).at (o := 0) (v := .string x.t.f0) rfl
  have e1 := (unhide R4).at (o := 1) (v := .string x.t.f1) rfl
  have e2 := (unhide R4).at (o := 2) (v := .slice x.h2.a x.h2.len x.h2.cap) rfl
  have e3 := (unhide R4).at (o := 3) (v := .slice x.h3.a x.h3.len x.h3.cap) rfl
  have e4 := (unhide R4).at (o := 4) (v := .int .i64 x.t.f4) rfl
  have ez := (unhide R4).lt
  cases b with
  | false =>
    go_wp2_with fail
    go_ret
    exact ⟨retB (b := false) ⟨fun h => (by cases h), fun h => (by obtain ⟨f1, f2, f3, f4, f5, f6, f7, f8⟩ := (unhide fin).1 h; have := (unhide F3).2 f3; cases this)⟩, unhide B4⟩
  | true =>
  clear e0 e1 e2 e3 e4 ez
  have e0 := (unhide R4).at (o := 0) (v := .string x.t.f0) rfl
  have e1 := (unhide R4).at (o := 1) (v := .string x.t.f1) rfl
  have e2 := (unhide R4).at (o := 2) (v := .slice x.h2.a x.h2.len x.h2.cap) rfl
  have e3 := (unhide R4).at (o := 3) (v := .slice x.h3.a x.h3.len x.h3.cap) rfl
  have e4 := (unhide R4).at (o := 4) (v := .int .i64 x.t.f4) rfl
  have ez := (unhide R4).lt
  by_cases hL : x.h3.len = x.h2.len
  rotate_left
  · have d4 : ((x.h3.len : Int) == (x.h2.len : Int)) = false := beq_eq_false_iff_ne.2 (by omega)
    go_wp2_with fail
    go_ret
    exact ⟨retB (b := false) ⟨fun h => (by cases h), fun h => (by obtain ⟨f1, f2, f3, f4, f5, f6, f7, f8⟩ := (unhide fin).1 h; exact absurd f4 hL)⟩, unhide B4⟩
  have d4 : ((x.h3.len : Int) == (x.h2.len : Int)) = true := beq_iff_eq.2 (by omega)
  have HL4 := hide hL
  clear hL
  clear e0 e1 e2 e3 e4 ez
  have e0 := (unhide R4).at (o := 0) (v := .string x.t.f0) rfl
  have e1 := (unhide R4).at (o := 1) (v := .string x.t.f1) rfl
  have e2 := (unhide R4).at (o := 2) (v := .slice x.h2.a x.h2.len x.h2.cap) rfl
  have e3 := (unhide R4).at (o := 3) (v := .slice x.h3.a x.h3.len x.h3.cap) rfl
  have e4 := (unhide R4).at (o := 4) (v := .int .i64 x.t.f4) rfl
  have ez := (unhide R4).lt
  go_wp2_with fail
  refine (unhide q5 _ (unhide B4)).mono ?_
  rintro e w6 ⟨⟨b, rfl, hb⟩, bb⟩
  have F5 := hide hb
  have B6 := hide (bTr (unhide B4) bb)
  have R6 := hide ((unhide R4).keep bb)
  clear e0 e1 e2 e3 e4 ez
  clear hb bb R4 B4
  have e0 := (unhide R6).at (o := 0) (v := .string x.t.f0) rfl
  have e1 := (unhide R6).at (o := 1) (v := .string x.t.f1) rfl
  have e2 := (unhide R6).at (o := 2) (v := .slice x.h2.a x.h2.len x.h2.cap) rfl
  have e3 := (unhide R6).at (o := 3) (v := .slice x.h3.a x.h3.len x.h3.cap) rfl
  have e4 := (unhide R6).at (o := 4) (v := .int .i64 x.t.f4) rfl
  have ez := (unhide R6).lt
  cases b with
  | false =>
    go_wp2_with fail
    go_ret
    exact ⟨retB (b := false) ⟨fun h => (by cases h), fun h => (by obtain ⟨f1, f2, f3, f4, f5, f6, f7, f8⟩ := (unhide fin).1 h; have := (unhide F5).2 f5; cases this)⟩, unhide B6⟩
  | true =>
  clear e0 e1 e2 e3 e4 ez
  have e0 := (unhide R6).at (o := 0) (v := .string x.t.f0) rfl
  have e1 := (unhide R6).at (o := 1) (v := .string x.t.f1) rfl
  have e2 := (unhide R6).at (o := 2) (v := .slice x.h2.a x.h2.len x.h2.cap) rfl
  have e3 := (unhide R6).at (o := 3) (v := .slice x.h3.a x.h3.len x.h3.cap) rfl
  have e4 := (unhide R6).at (o := 4) (v := .int .i64 x.t.f4) rfl
  have ez := (unhide R6).lt
  go_wp2_with fail
  refine (unhide q6 _).mono ?_
  rintro e w7 ⟨rfl, rfl⟩
  cases d6 : decide (0 ≤ x.t.f4 ∧ x.t.f4 ≤ 20) with
  | false =>
    go_wp2_with fail
    go_ret
    exact ⟨retB (b := false) ⟨fun h => (by cases h), fun h => (by obtain ⟨f1, f2, f3, f4, f5, f6, f7, f8⟩ := (unhide fin).1 h; rw [d6] at f6; cases f6)⟩, unhide B6⟩
  | true =>
  have D6 := hide d6
  clear d6
  clear e0 e1 e2 e3 e4 ez
  have e0 := (unhide R6).at (o := 0) (v := .string x.t.f0) rfl
  have e1 := (unhide R6).at (o := 1) (v := .string x.t.f1) rfl
  have e2 := (unhide R6).at (o := 2) (v := .slice x.h2.a x.h2.len x.h2.cap) rfl
  have e3 := (unhide R6).at (o := 3) (v := .slice x.h3.a x.h3.len x.h3.cap) rfl
  have e4 := (unhide R6).at (o := 4) (v := .int .i64 x.t.f4) rfl
  have ez := (unhide R6).lt
  go_wp2_with fail
  refine (unhide q7 _).mono ?_
  rintro e w8 ⟨⟨b, rfl, hb⟩, bb⟩
  have F7 := hide hb
  have B8 := hide (bTr (unhide B6) bb)
  have R8 := hide ((unhide R6).keep bb)
  clear e0 e1 e2 e3 e4 ez
  clear hb bb R6 B6
  have e0 := (unhide R8).at (o := 0) (v := .string x.t.f0) rfl
  have e1 := (unhide R8).at (o := 1) (v := .string x.t.f1) rfl
  have e2 := (unhide R8).at (o := 2) (v := .slice x.h2.a x.h2.len x.h2.cap) rfl
  have e3 := (unhide R8).at (o := 3) (v := .slice x.h3.a x.h3.len x.h3.cap) rfl
  have e4 := (unhide R8).at (o := 4) (v := .int .i64 x.t.f4) rfl
  have ez := (unhide R8).lt
  cases b with
  | false =>
    go_wp2_with fail
    go_ret
    exact ⟨retB (b := false) ⟨fun h => (by cases h), fun h => (by obtain ⟨f1, f2, f3, f4, f5, f6, f7, f8⟩ := (unhide fin).1 h; have := (unhide F7).2 f7; cases this)⟩, unhide B8⟩
  | true =>
  clear e0 e1 e2 e3 e4 ez
  have e0 := (unhide R8).at (o := 0) (v := .string x.t.f0) rfl
  have e1 := (unhide R8).at (o := 1) (v := .string x.t.f1) rfl
  have e2 := (unhide R8).at (o := 2) (v := .slice x.h2.a x.h2.len x.h2.cap) rfl
  have e3 := (unhide R8).at (o := 3) (v := .slice x.h3.a x.h3.len x.h3.cap) rfl
  have e4 := (unhide R8).at (o := 4) (v := .int .i64 x.t.f4) rfl
  have ez := (unhide R8).lt
  by_cases hK : x.t.f4 = 0
  · have d8 : (x.t.f4 == 0) = true := beq_iff_eq.2 hK
    have HK := hide hK
    clear hK
    go_wp2_with fail
    go_ret
    exact ⟨retB (b := true) ⟨fun _ => (unhide fin).2 ⟨(unhide F1).1 (by trivial), (unhide F2).1 (by trivial), (unhide F3).1 (by trivial), unhide HL4, (unhide F5).1 (by trivial), unhide D6, (unhide F7).1 (by trivial), .inl (unhide HK)⟩, fun _ => rfl⟩, unhide B8⟩
  · have d8 : (x.t.f4 == 0) = false := beq_eq_false_iff_ne.2 hK
    have HK := hide hK
    clear hK
    by_cases hA : x.t.f1 = ⟨#[]⟩
    · have HA := hide hA
      rw [hA] at e1
      clear hA
      go_wp2_with fail
      go_ret
      exact ⟨retB (b := true) ⟨fun _ => (unhide fin).2 ⟨(unhide F1).1 (by trivial), (unhide F2).1 (by trivial), (unhide F3).1 (by trivial), unhide HL4, (unhide F5).1 (by trivial), unhide D6, (unhide F7).1 (by trivial), .inr (unhide HA)⟩, fun _ => rfl⟩, unhide B8⟩
    · have d9 : (ByteArray.toList x.t.f1).isEmpty = false := by simpa using str_neY hA
      have HA := hide hA
      clear hA
      go_wp2_with fail
      go_ret
      exact ⟨retB (b := false) ⟨fun h => (by cases h), fun h => (by obtain ⟨f1, f2, f3, f4, f5, f6, f7, f8⟩ := (unhide fin).1 h; exact absurd f8 (by rintro (h | h); exact (unhide HK) h; exact (unhide HA) h))⟩, unhide B8⟩
set_option maxHeartbeats 1000000 in
theorem notGood_elm  (P : ElemE → Prop) (b : Nat) (x : ElemE) (w : World) (hc : w.cell? ⟨b, 0, none⟩ = some (.func (.func 34) #[] #[]))
    (q : ∀ w' : World, Below w.heap.size w w' → Calls Tryd.prog 34 #[.agg #[.string x.t.f0, .string x.t.f1, .slice x.h2.a x.h2.len x.h2.cap, .slice x.h3.a x.h3.len x.h3.cap, .int .i64 x.t.f4]] w' fun e w'' => RetB e (P x) ∧ Below w'.heap.size w' w'') :
    Calls Tryd.prog 44 #[.agg #[.string x.t.f0, .string x.t.f1, .slice x.h2.a x.h2.len x.h2.cap, .slice x.h3.a x.h3.len x.h3.cap, .int .i64 x.t.f4], .pointer (some ⟨b, 0, none⟩)] w fun e w' => RetB e (¬ P x) ∧ Below w.heap.size w w' := by
  have HB := hide (bAl (Below.refl w.heap.size w) (.cells #[.string x.t.f0, .string x.t.f1, .slice x.h2.a x.h2.len x.h2.cap, .slice x.h3.a x.h3.len x.h3.cap, .int .i64 x.t.f4] 35))
  have zb : b < w.heap.size := World.block_lt_of_cell? w ⟨b, 0, none⟩ hc
  have Q := hide (q _ (unhide HB))
  clear q
  go_enter Tryd.func44, Tryd.ntmps44
  go_wp2_with fail
  refine (unhide Q).mono ?_
  rintro e w1 ⟨⟨v, rfl, hv⟩, hb⟩
  have B1 := hide (bTr (unhide HB) hb)
  have HV := hide hv
  clear hb HB Q hc hv
  go_wp2_with fail
  go_ret
  refine ⟨retB (b := !v) ?_, unhide B1⟩
  rw [← unhide HV]; cases v <;> simp
set_option maxHeartbeats 1000000 in
theorem indexBad_elm  (P : ElemE → Prop) (b : Nat) (h : Hd) (l : List ElemE) (w : World) (hl : l.length ≤ maxLen) (hs : SqElemE w 0 h l) (hc : w.cell? ⟨b, 0, none⟩ = some (.func (.func 34) #[] #[]))
    (q : ∀ x ∈ l, ∀ w' : World, Below w.heap.size w w' → Calls Tryd.prog 34 #[.agg #[.string x.t.f0, .string x.t.f1, .slice x.h2.a x.h2.len x.h2.cap, .slice x.h3.a x.h3.len x.h3.cap, .int .i64 x.t.f4]] w' fun e w'' => RetB e (P x) ∧ Below w'.heap.size w' w'') :
    Calls Tryd.prog 56 #[.slice h.a h.len h.cap, .func (.func 44) #[] #[.pointer (some ⟨b, 0, none⟩)]] w fun e w' => (∃ v : Int, e = .returned (.int .i64 v) ∧ (0 ≤ v ↔ ¬ ∀ x ∈ l, P x)) ∧ Below w.heap.size w w' := by
  have HS := hide hs
  have zb : b < w.heap.size := World.block_lt_of_cell? w ⟨b, 0, none⟩ hc
  have HC := hide (fun (w' : World) (h : Below w.heap.size w w') => cellB (w' := w') h zb hc)
  have HQ := hide q
  have HL := hide hs.1
  have hlm : h.len ≤ maxLen := by rw [hs.1]; exact hl
  unfold maxLen at hlm
  obtain ⟨a, len, cap⟩ := h
  simp only at hlm HL
  clear hs hc q hl
  go_enter Tryd.func56, Tryd.ntmps56
  go_wp2_with fail
  go_loopw [8] (fun i w' => ∃ k : Nat, k ≤ len ∧ i = .int .i64 k ∧ Hid (Below w.heap.size w w') ∧ Hid (∀ i (h : i < l.length), i < k → P l[i])) (fun i _ => len - (Go.RowKit.intOf i).toNat)
  case atStart => exact ⟨0, Nat.zero_le _, rfl, hide (Below.refl _ _), hide (fun i _ h => absurd h (Nat.not_lt_zero _))⟩
  case round =>
    obtain ⟨k, hk, rfl, hb, hA⟩ := hrel
    by_cases hlt : k < len
    · have hk' : k < l.length := by have := unhide HL; omega
      obtain ⟨bb_, off, e0, hrow⟩ := ((unhide HS).keep (unhide hb)).at hlt
      simp only at e0
      subst e0
      have c0 := hrow.c0 k hk'
      have c1 := hrow.c1 k hk'
      have c2 := hrow.c2 k hk'
      have c3 := hrow.c3 k hk'
      have c4 := hrow.c4 k hk'
      have zk := hrow.z
      have q := hide (notGood_elm  P b l[k] wr (unhide HC _ (unhide hb)) (fun w' h => unhide HQ _ (List.getElem_mem hk') w' (bTr (unhide hb) h)))
      have eS : Hid (P l[k] → ∀ i (h : i < l.length), i < k + 1 → P l[i]) := hide (fun g i hi h1 => by
        rcases Nat.lt_or_ge i k with h2 | h2
        · exact unhide hA i hi h2
        · obtain rfl : i = k := by omega
          exact g)
      have eN : Hid (¬ P l[k] → ¬ ∀ x ∈ l, P x) := hide (fun g h => g (h _ (List.getElem_mem hk')))
      clear hrow
      generalize l[k] = A at *
      go_wp2_with fail
      refine (unhide q).mono ?_
      rintro e w1 ⟨⟨v, rfl, hv⟩, hb1⟩
      have B1 := hide (bTr (unhide hb) hb1)
      have HV := hide hv
      clear hb1 q hv c0 c1 c2 c3 c4
      cases v
      · have S := hide (unhide eS (Classical.byContradiction fun h => by have := (unhide HV).2 h; cases this))
        clear eS eN HV
        go_wp2_with fail
        exact ⟨⟨k + 1, by omega, by go_num, B1, S⟩, by simp [Go.RowKit.intOf]; omega⟩
      · have N := hide (unhide eN ((unhide HV).1 rfl))
        clear eS eN HV
        go_wp2_with fail
        go_ret
        exact ⟨⟨_, rfl, fun _ => unhide N, fun _ => by omega⟩, unhide B1⟩
    · have S : Hid (∀ x ∈ l, P x) := hide (fun x hx => by
        obtain ⟨i, hi, rfl⟩ := List.getElem_of_mem hx
        exact unhide hA i hi (by have := unhide HL; omega))
      go_wp2_with fail
      go_ret
      exact ⟨⟨_, rfl, fun h => absurd h (by decide), fun h => absurd (unhide S) h⟩, unhide hb⟩
set_option maxHeartbeats 1000000 in
theorem goodList_elm  (P : ElemE → Prop) (most : Int) (h : Hd) (l : List ElemE) (w : World) (hl : l.length ≤ maxLen) (hs : SqElemE w 0 h l)
    (q : ∀ x ∈ l, ∀ w' : World, Below w.heap.size w w' → Calls Tryd.prog 34 #[.agg #[.string x.t.f0, .string x.t.f1, .slice x.h2.a x.h2.len x.h2.cap, .slice x.h3.a x.h3.len x.h3.cap, .int .i64 x.t.f4]] w' fun e w'' => RetB e (P x) ∧ Below w'.heap.size w' w'') :
    Calls Tryd.prog 33 #[.slice h.a h.len h.cap, .int .i64 most, .func (.func 34) #[] #[]] w fun e w' => RetB e ((l.length : Int) ≤ most ∧ ∀ x ∈ l, P x) ∧ Below w.heap.size w w' := by
  have HS := hide hs
  have HQ := hide q
  have HL := hide hs.1
  have HM := hide hl
  clear hs q hl
  by_cases h200 : (h.len : Int) ≤ most
  · obtain ⟨W, hW⟩ : ∃ W, W = w.alloc (.cells #[.func (.func 34) #[] #[]] 49) := ⟨_, rfl⟩
    have R := show RowIs W w.heap.size #[.func (.func 34) #[] #[]] 49 by rw [hW]; exact RowIs.new _ _ _
    have B := hide (show Below w.heap.size w W by rw [hW]; exact bAl (Below.refl _ _) _)
    have HW := hide hW.symm
    clear hW
    have q := hide (fun hc => indexBad_elm  P w.heap.size h l W (unhide HM) ((unhide HS).keep (unhide B)) hc (fun x hx w' h => unhide HQ x hx w' (bTr (unhide B) h)))
    have q2 : Hid (Calls Tryd.prog 43 #[.slice h.a h.len h.cap, .func (.func 44) #[] #[.pointer (some ⟨w.heap.size, 0, none⟩)]] W fun e w' => (∃ v : Bool, e = .returned (.bool v) ∧ (v = true ↔ ¬ ∀ x ∈ l, P x)) ∧ Below W.heap.size W w') := hide (by
      have q := hide (unhide q (R.at (o := 0) rfl))
      go_enter Tryd.func43, Tryd.ntmps43
      go_wp2_with fail
      refine (unhide q).mono ?_
      rintro e w1 ⟨⟨v, rfl, hv⟩, hb⟩
      have HV := hide hv
      clear hv
      go_wp2_with fail
      go_ret
      exact ⟨⟨decide (0 ≤ v), rfl, by rw [decide_eq_true_iff]; exact unhide HV⟩, hb⟩)
    have hst := @run_store Tryd.prog
    clear q R
    go_enter Tryd.func33, Tryd.ntmps33
    go_wp2_with fail
    rw [unhide HW]
    refine (unhide q2).mono ?_
    rintro e w1 ⟨⟨v, rfl, hv⟩, hb⟩
    have HV := hide hv
    have B1 := hide (bTr (unhide B) hb)
    clear hv hb q2 hst HW B
    go_wp2_with fail
    go_ret
    have hle := unhide HL
    refine ⟨retB (b := !v) ⟨fun h => ?_, fun h => ?_⟩, unhide B1⟩
    · cases v
      · refine ⟨by omega, ?_⟩
        have := unhide HV
        exact Classical.byContradiction fun hn => by have := this.2 hn; cases this
      · cases h
    · cases v
      · rfl
      · exact absurd h.2 ((unhide HV).1 rfl)
  · have d : decide ((h.len : Int) ≤ most) = false := by simpa using h200
    have B := hide (bAl (Below.refl w.heap.size w) (.cells #[.func (.func 34) #[] #[]] 49))
    have hst := @run_store Tryd.prog
    go_enter Tryd.func33, Tryd.ntmps33
    go_wp2_with fail
    go_ret
    have hle := unhide HL
    exact ⟨retB (b := false) ⟨fun h => (by cases h), fun h => absurd h.1 (by omega)⟩, unhide B⟩
end Go.Proofs.YtdhpfhpegaekpaaDoor.V
