/- Refs, and lists of refs and names. -/
import Derived.Test.YtpfekkhnjaopdaaGreatZRow
import Derived.Test.YtpfekkhnjaopdaaGreatWVal
import Derived.Test.YtpfekkhnjaopdaaGreatWValJ
namespace Go.Proofs.YtpfekkhnjaopdaaGreat.V
set_option linter.unusedSimpArgs false
open Go.RowKit

def refA (A : AtomT) : Bool := decide (A.x = 4) && A.good
set_option maxHeartbeats 400000 in
theorem isRef_any (A : AtomT) (w : World) (ho : A.Ok) :
    Calls Tryz.prog 26 #[.agg #[.int .i64 A.x, .int .i64 A.n, .string A.t, .string A.y]] w fun e w' => RetB e (refA A = true) ∧ Below w.heap.size w w' := by
  have q := hide (fun w => iGoodAtom_any A.x A.n A.t A.y w ho.n9 ho.t9 ho.y9)
  have B := hide (bAl (Below.refl w.heap.size w) (.cells #[.int .i64 A.x, .int .i64 A.n, .string A.t, .string A.y] 31))
  clear ho
  by_cases h4 : A.x = 4
  · have hr : Hid (refA A = goodAtom 4 A.n A.t A.y) := hide (by simp [refA, h4, AtomT.good])
    generalize refA A = G' at hr ⊢
    obtain ⟨x, n, t, y⟩ := A
    simp only at *
    subst h4
    go_enter Tryz.func26, Tryz.ntmps26
    go_wp2_with fail
    refine (unhide q _).mono ?_
    rintro e w1 ⟨rfl, hb⟩
    replace B := hide (bTr (unhide B) hb)
    clear hb
    generalize goodAtom 4 n t y = G at hr ⊢
    go_wp2_with fail
    go_ret
    exact ⟨retB (b := G) (by rw [unhide hr]), unhide B⟩
  · have d : (A.x == 4) = false := by simpa using h4
    have hr : Hid (refA A = false) := hide (by simp [refA, h4])
    go_enter Tryz.func26, Tryz.ntmps26
    go_wp2_with fail
    go_ret
    exact ⟨retB (b := false) (by rw [unhide hr]), unhide B⟩
set_option maxHeartbeats 400000 in
theorem l11Ref_any (A : AtomT) (w : World) (ho : A.Ok) :
    Calls Tryz.prog 22 #[.agg #[.int .i64 A.x, .int .i64 A.n, .string A.t, .string A.y]] w fun e w' => RetB e (refA A = true) ∧ Below w.heap.size w w' := by
  have q := hide (fun w => sGoodAtom_any A.x A.n A.t A.y w ho.n9 ho.t9 ho.y9)
  have B := hide (bAl (Below.refl w.heap.size w) (.cells #[.int .i64 A.x, .int .i64 A.n, .string A.t, .string A.y] 31))
  clear ho
  by_cases h4 : A.x = 4
  · have hr : Hid (refA A = goodAtom 4 A.n A.t A.y) := hide (by simp [refA, h4, AtomT.good])
    generalize refA A = G' at hr ⊢
    obtain ⟨x, n, t, y⟩ := A
    simp only at *
    subst h4
    go_enter Tryz.func22, Tryz.ntmps22
    go_wp2_with fail
    refine (unhide q _).mono ?_
    rintro e w1 ⟨rfl, hb⟩
    replace B := hide (bTr (unhide B) hb)
    clear hb
    generalize goodAtom 4 n t y = G at hr ⊢
    go_wp2_with fail
    go_ret
    exact ⟨retB (b := G) (by rw [unhide hr]), unhide B⟩
  · have d : (A.x == 4) = false := by simpa using h4
    have hr : Hid (refA A = false) := hide (by simp [refA, h4])
    go_enter Tryz.func22, Tryz.ntmps22
    go_wp2_with fail
    go_ret
    exact ⟨retB (b := false) (by rw [unhide hr]), unhide B⟩
set_option maxHeartbeats 1000000 in
theorem notGood_ref  (P : AtomT → Prop) (b : Nat) (x : AtomT) (w : World) (hc : w.cell? ⟨b, 0, none⟩ = some (.func (.func 26) #[] #[]))
    (q : ∀ w' : World, Below w.heap.size w w' → Calls Tryz.prog 26 #[.agg #[.int .i64 x.x, .int .i64 x.n, .string x.t, .string x.y]] w' fun e w'' => RetB e (P x) ∧ Below w'.heap.size w' w'') :
    Calls Tryz.prog 117 #[.agg #[.int .i64 x.x, .int .i64 x.n, .string x.t, .string x.y], .pointer (some ⟨b, 0, none⟩)] w fun e w' => RetB e (¬ P x) ∧ Below w.heap.size w w' := by
  have HB := hide (bAl (Below.refl w.heap.size w) (.cells #[.int .i64 x.x, .int .i64 x.n, .string x.t, .string x.y] 31))
  have zb : b < w.heap.size := World.block_lt_of_cell? w ⟨b, 0, none⟩ hc
  have Q := hide (q _ (unhide HB))
  clear q
  go_enter Tryz.func117, Tryz.ntmps117
  go_wp2_with fail
  refine (unhide Q).mono ?_
  rintro e w1 ⟨⟨v, rfl, hv⟩, hb⟩
  have B1 := hide (bTr (unhide HB) hb)
  have HV := hide hv
  clear hb HB Q hc hv
  go_wp2_with fail
  go_ret
  refine ⟨retB (b := !v) ?_, unhide B1⟩
  rw [← unhide HV]; cases v <;> simp
set_option maxHeartbeats 1000000 in
theorem indexBad_ref  (P : AtomT → Prop) (b : Nat) (h : Hd) (l : List AtomT) (w : World) (hl : l.length ≤ maxLen) (hs : SqA w 0 h l) (hc : w.cell? ⟨b, 0, none⟩ = some (.func (.func 26) #[] #[]))
    (q : ∀ x ∈ l, ∀ w' : World, Below w.heap.size w w' → Calls Tryz.prog 26 #[.agg #[.int .i64 x.x, .int .i64 x.n, .string x.t, .string x.y]] w' fun e w'' => RetB e (P x) ∧ Below w'.heap.size w' w'') :
    Calls Tryz.prog 130 #[.slice h.a h.len h.cap, .func (.func 117) #[] #[.pointer (some ⟨b, 0, none⟩)]] w fun e w' => (∃ v : Int, e = .returned (.int .i64 v) ∧ (0 ≤ v ↔ ¬ ∀ x ∈ l, P x)) ∧ Below w.heap.size w w' := by
  have HS := hide hs
  have zb : b < w.heap.size := World.block_lt_of_cell? w ⟨b, 0, none⟩ hc
  have HC := hide (fun (w' : World) (h : Below w.heap.size w w') => cellB (w' := w') h zb hc)
  have HQ := hide q
  have HL := hide hs.1
  have hlm : h.len ≤ maxLen := by rw [hs.1]; exact hl
  unfold maxLen at hlm
  obtain ⟨a, len, cap⟩ := h
  simp only at hlm HL
  clear hs hc q hl
  go_enter Tryz.func130, Tryz.ntmps130
  go_wp2_with fail
  go_loopw [8] (fun i w' => ∃ k : Nat, k ≤ len ∧ i = .int .i64 k ∧ Hid (Below w.heap.size w w') ∧ Hid (∀ i (h : i < l.length), i < k → P l[i])) (fun i _ => len - (Go.RowKit.intOf i).toNat)
  case atStart => exact ⟨0, Nat.zero_le _, rfl, hide (Below.refl _ _), hide (fun i _ h => absurd h (Nat.not_lt_zero _))⟩
  case round =>
    obtain ⟨k, hk, rfl, hb, hA⟩ := hrel
    by_cases hlt : k < len
    · have hk' : k < l.length := by have := unhide HL; omega
      obtain ⟨b1, off, e0, hrow⟩ := ((unhide HS).keep (unhide hb)).sl.at hlt
      simp only at e0
      subst e0
      have c0 := (hrow.c k hk').c0
      have c1 := (hrow.c k hk').c1
      have c2 := (hrow.c k hk').c2
      have c3 := (hrow.c k hk').c3
      have zk := hrow.z
      have q := hide (notGood_ref  P b l[k] wr (unhide HC _ (unhide hb)) (fun w' h => unhide HQ _ (List.getElem_mem hk') w' (bTr (unhide hb) h)))
      have eS : Hid (P l[k] → ∀ i (h : i < l.length), i < k + 1 → P l[i]) := hide (fun g i hi h1 => by
        rcases Nat.lt_or_ge i k with h2 | h2
        · exact unhide hA i hi h2
        · obtain rfl : i = k := by omega
          exact g)
      have eN : Hid (¬ P l[k] → ¬ ∀ x ∈ l, P x) := hide (fun g h => g (h _ (List.getElem_mem hk')))
      clear hrow
      generalize l[k] = A at *
      go_wp2_with fail
      refine (unhide q).mono ?_
      rintro e w1 ⟨⟨v, rfl, hv⟩, hb1⟩
      have B1 := hide (bTr (unhide hb) hb1)
      have HV := hide hv
      clear hb1 q hv c0 c1 c2 c3
      cases v
      · have S := hide (unhide eS (Classical.byContradiction fun h => by have := (unhide HV).2 h; cases this))
        clear eS eN HV
        go_wp2_with fail
        exact ⟨⟨k + 1, by omega, by go_num, B1, S⟩, by simp [Go.RowKit.intOf]; omega⟩
      · have N := hide (unhide eN ((unhide HV).1 rfl))
        clear eS eN HV
        go_wp2_with fail
        go_ret
        exact ⟨⟨_, rfl, fun _ => unhide N, fun _ => by omega⟩, unhide B1⟩
    · have S : Hid (∀ x ∈ l, P x) := hide (fun x hx => by
        obtain ⟨i, hi, rfl⟩ := List.getElem_of_mem hx
        exact unhide hA i hi (by have := unhide HL; omega))
      go_wp2_with fail
      go_ret
      exact ⟨⟨_, rfl, fun h => absurd h (by decide), fun h => absurd (unhide S) h⟩, unhide hb⟩
set_option maxHeartbeats 1000000 in
theorem goodList_ref  (P : AtomT → Prop) (most : Int) (h : Hd) (l : List AtomT) (w : World) (hl : l.length ≤ maxLen) (hs : SqA w 0 h l)
    (q : ∀ x ∈ l, ∀ w' : World, Below w.heap.size w w' → Calls Tryz.prog 26 #[.agg #[.int .i64 x.x, .int .i64 x.n, .string x.t, .string x.y]] w' fun e w'' => RetB e (P x) ∧ Below w'.heap.size w' w'') :
    Calls Tryz.prog 98 #[.slice h.a h.len h.cap, .int .i64 most, .func (.func 26) #[] #[]] w fun e w' => RetB e ((l.length : Int) ≤ most ∧ ∀ x ∈ l, P x) ∧ Below w.heap.size w w' := by
  have HS := hide hs
  have HQ := hide q
  have HL := hide hs.1
  have HM := hide hl
  clear hs q hl
  by_cases h200 : (h.len : Int) ≤ most
  · obtain ⟨W, hW⟩ : ∃ W, W = w.alloc (.cells #[.func (.func 26) #[] #[]] 53) := ⟨_, rfl⟩
    have R := show RowIs W w.heap.size #[.func (.func 26) #[] #[]] 53 by rw [hW]; exact RowIs.new _ _ _
    have B := hide (show Below w.heap.size w W by rw [hW]; exact bAl (Below.refl _ _) _)
    have HW := hide hW.symm
    clear hW
    have q := hide (fun hc => indexBad_ref  P w.heap.size h l W (unhide HM) ((unhide HS).keep (unhide B)) hc (fun x hx w' h => unhide HQ x hx w' (bTr (unhide B) h)))
    have q2 : Hid (Calls Tryz.prog 116 #[.slice h.a h.len h.cap, .func (.func 117) #[] #[.pointer (some ⟨w.heap.size, 0, none⟩)]] W fun e w' => (∃ v : Bool, e = .returned (.bool v) ∧ (v = true ↔ ¬ ∀ x ∈ l, P x)) ∧ Below W.heap.size W w') := hide (by
      have q := hide (unhide q (R.at (o := 0) rfl))
      go_enter Tryz.func116, Tryz.ntmps116
      go_wp2_with fail
      refine (unhide q).mono ?_
      rintro e w1 ⟨⟨v, rfl, hv⟩, hb⟩
      have HV := hide hv
      clear hv
      go_wp2_with fail
      go_ret
      exact ⟨⟨decide (0 ≤ v), rfl, by rw [decide_eq_true_iff]; exact unhide HV⟩, hb⟩)
    have hst := @run_store Tryz.prog
    clear q R
    go_enter Tryz.func98, Tryz.ntmps98
    go_wp2_with fail
    rw [unhide HW]
    refine (unhide q2).mono ?_
    rintro e w1 ⟨⟨v, rfl, hv⟩, hb⟩
    have HV := hide hv
    have B1 := hide (bTr (unhide B) hb)
    clear hv hb q2 hst HW B
    go_wp2_with fail
    go_ret
    have hle := unhide HL
    refine ⟨retB (b := !v) ⟨fun h => ?_, fun h => ?_⟩, unhide B1⟩
    · cases v
      · refine ⟨by omega, ?_⟩
        have := unhide HV
        exact Classical.byContradiction fun hn => by have := this.2 hn; cases this
      · cases h
    · cases v
      · rfl
      · exact absurd h.2 ((unhide HV).1 rfl)
  · have d : decide ((h.len : Int) ≤ most) = false := by simpa using h200
    have B := hide (bAl (Below.refl w.heap.size w) (.cells #[.func (.func 26) #[] #[]] 53))
    have hst := @run_store Tryz.prog
    go_enter Tryz.func98, Tryz.ntmps98
    go_wp2_with fail
    go_ret
    have hle := unhide HL
    exact ⟨retB (b := false) ⟨fun h => (by cases h), fun h => absurd h.1 (by omega)⟩, unhide B⟩
set_option maxHeartbeats 1000000 in
theorem notGood_name  (P : ByteArray → Prop) (b : Nat) (x : ByteArray) (w : World) (hc : w.cell? ⟨b, 0, none⟩ = some (.func (.func 64) #[] #[]))
    (q : ∀ w' : World, Below w.heap.size w w' → Calls Tryz.prog 64 #[.string x] w' fun e w'' => RetB e (P x) ∧ Below w'.heap.size w' w'') :
    Calls Tryz.prog 132 #[.string x, .pointer (some ⟨b, 0, none⟩)] w fun e w' => RetB e (¬ P x) ∧ Below w.heap.size w w' := by
  have HB := hide (Below.refl w.heap.size w)
  have zb : b < w.heap.size := World.block_lt_of_cell? w ⟨b, 0, none⟩ hc
  have Q := hide (q _ (unhide HB))
  clear q
  go_enter Tryz.func132, Tryz.ntmps132
  go_wp2_with fail
  refine (unhide Q).mono ?_
  rintro e w1 ⟨⟨v, rfl, hv⟩, hb⟩
  have B1 := hide (bTr (unhide HB) hb)
  have HV := hide hv
  clear hb HB Q hc hv
  go_wp2_with fail
  go_ret
  refine ⟨retB (b := !v) ?_, unhide B1⟩
  rw [← unhide HV]; cases v <;> simp
set_option maxHeartbeats 1000000 in
theorem indexBad_name  (P : ByteArray → Prop) (b : Nat) (h : Hd) (l : List ByteArray) (w : World) (hl : l.length ≤ maxLen) (hs : SqS w 0 h l) (hc : w.cell? ⟨b, 0, none⟩ = some (.func (.func 64) #[] #[]))
    (q : ∀ x ∈ l, ∀ w' : World, Below w.heap.size w w' → Calls Tryz.prog 64 #[.string x] w' fun e w'' => RetB e (P x) ∧ Below w'.heap.size w' w'') :
    Calls Tryz.prog 137 #[.slice h.a h.len h.cap, .func (.func 132) #[] #[.pointer (some ⟨b, 0, none⟩)]] w fun e w' => (∃ v : Int, e = .returned (.int .i64 v) ∧ (0 ≤ v ↔ ¬ ∀ x ∈ l, P x)) ∧ Below w.heap.size w w' := by
  have HS := hide hs
  have zb : b < w.heap.size := World.block_lt_of_cell? w ⟨b, 0, none⟩ hc
  have HC := hide (fun (w' : World) (h : Below w.heap.size w w') => cellB (w' := w') h zb hc)
  have HQ := hide q
  have HL := hide hs.1
  have hlm : h.len ≤ maxLen := by rw [hs.1]; exact hl
  unfold maxLen at hlm
  obtain ⟨a, len, cap⟩ := h
  simp only at hlm HL
  clear hs hc q hl
  go_enter Tryz.func137, Tryz.ntmps137
  go_wp2_with fail
  go_loopw [8] (fun i w' => ∃ k : Nat, k ≤ len ∧ i = .int .i64 k ∧ Hid (Below w.heap.size w w') ∧ Hid (∀ i (h : i < l.length), i < k → P l[i])) (fun i _ => len - (Go.RowKit.intOf i).toNat)
  case atStart => exact ⟨0, Nat.zero_le _, rfl, hide (Below.refl _ _), hide (fun i _ h => absurd h (Nat.not_lt_zero _))⟩
  case round =>
    obtain ⟨k, hk, rfl, hb, hA⟩ := hrel
    by_cases hlt : k < len
    · have hk' : k < l.length := by have := unhide HL; omega
      obtain ⟨b1, off, e0, hrow⟩ := ((unhide HS).keep (unhide hb)).sl.at hlt
      simp only at e0
      subst e0
      have c0 := hrow.c k hk'
      have zk := hrow.z
      have q := hide (notGood_name  P b l[k] wr (unhide HC _ (unhide hb)) (fun w' h => unhide HQ _ (List.getElem_mem hk') w' (bTr (unhide hb) h)))
      have eS : Hid (P l[k] → ∀ i (h : i < l.length), i < k + 1 → P l[i]) := hide (fun g i hi h1 => by
        rcases Nat.lt_or_ge i k with h2 | h2
        · exact unhide hA i hi h2
        · obtain rfl : i = k := by omega
          exact g)
      have eN : Hid (¬ P l[k] → ¬ ∀ x ∈ l, P x) := hide (fun g h => g (h _ (List.getElem_mem hk')))
      clear hrow
      generalize l[k] = A at *
      go_wp2_with fail
      refine (unhide q).mono ?_
      rintro e w1 ⟨⟨v, rfl, hv⟩, hb1⟩
      have B1 := hide (bTr (unhide hb) hb1)
      have HV := hide hv
      clear hb1 q hv c0
      cases v
      · have S := hide (unhide eS (Classical.byContradiction fun h => by have := (unhide HV).2 h; cases this))
        clear eS eN HV
        go_wp2_with fail
        exact ⟨⟨k + 1, by omega, by go_num, B1, S⟩, by simp [Go.RowKit.intOf]; omega⟩
      · have N := hide (unhide eN ((unhide HV).1 rfl))
        clear eS eN HV
        go_wp2_with fail
        go_ret
        exact ⟨⟨_, rfl, fun _ => unhide N, fun _ => by omega⟩, unhide B1⟩
    · have S : Hid (∀ x ∈ l, P x) := hide (fun x hx => by
        obtain ⟨i, hi, rfl⟩ := List.getElem_of_mem hx
        exact unhide hA i hi (by have := unhide HL; omega))
      go_wp2_with fail
      go_ret
      exact ⟨⟨_, rfl, fun h => absurd h (by decide), fun h => absurd (unhide S) h⟩, unhide hb⟩
set_option maxHeartbeats 1000000 in
theorem goodList_name  (P : ByteArray → Prop) (most : Int) (h : Hd) (l : List ByteArray) (w : World) (hl : l.length ≤ maxLen) (hs : SqS w 0 h l)
    (q : ∀ x ∈ l, ∀ w' : World, Below w.heap.size w w' → Calls Tryz.prog 64 #[.string x] w' fun e w'' => RetB e (P x) ∧ Below w'.heap.size w' w'') :
    Calls Tryz.prog 118 #[.slice h.a h.len h.cap, .int .i64 most, .func (.func 64) #[] #[]] w fun e w' => RetB e ((l.length : Int) ≤ most ∧ ∀ x ∈ l, P x) ∧ Below w.heap.size w w' := by
  have HS := hide hs
  have HQ := hide q
  have HL := hide hs.1
  have HM := hide hl
  clear hs q hl
  by_cases h200 : (h.len : Int) ≤ most
  · obtain ⟨W, hW⟩ : ∃ W, W = w.alloc (.cells #[.func (.func 64) #[] #[]] 104) := ⟨_, rfl⟩
    have R := show RowIs W w.heap.size #[.func (.func 64) #[] #[]] 104 by rw [hW]; exact RowIs.new _ _ _
    have B := hide (show Below w.heap.size w W by rw [hW]; exact bAl (Below.refl _ _) _)
    have HW := hide hW.symm
    clear hW
    have q := hide (fun hc => indexBad_name  P w.heap.size h l W (unhide HM) ((unhide HS).keep (unhide B)) hc (fun x hx w' h => unhide HQ x hx w' (bTr (unhide B) h)))
    have q2 : Hid (Calls Tryz.prog 131 #[.slice h.a h.len h.cap, .func (.func 132) #[] #[.pointer (some ⟨w.heap.size, 0, none⟩)]] W fun e w' => (∃ v : Bool, e = .returned (.bool v) ∧ (v = true ↔ ¬ ∀ x ∈ l, P x)) ∧ Below W.heap.size W w') := hide (by
      have q := hide (unhide q (R.at (o := 0) rfl))
      go_enter Tryz.func131, Tryz.ntmps131
      go_wp2_with fail
      refine (unhide q).mono ?_
      rintro e w1 ⟨⟨v, rfl, hv⟩, hb⟩
      have HV := hide hv
      clear hv
      go_wp2_with fail
      go_ret
      exact ⟨⟨decide (0 ≤ v), rfl, by rw [decide_eq_true_iff]; exact unhide HV⟩, hb⟩)
    have hst := @run_store Tryz.prog
    clear q R
    go_enter Tryz.func118, Tryz.ntmps118
    go_wp2_with fail
    rw [unhide HW]
    refine (unhide q2).mono ?_
    rintro e w1 ⟨⟨v, rfl, hv⟩, hb⟩
    have HV := hide hv
    have B1 := hide (bTr (unhide B) hb)
    clear hv hb q2 hst HW B
    go_wp2_with fail
    go_ret
    have hle := unhide HL
    refine ⟨retB (b := !v) ⟨fun h => ?_, fun h => ?_⟩, unhide B1⟩
    · cases v
      · refine ⟨by omega, ?_⟩
        have := unhide HV
        exact Classical.byContradiction fun hn => by have := this.2 hn; cases this
      · cases h
    · cases v
      · rfl
      · exact absurd h.2 ((unhide HV).1 rfl)
  · have d : decide ((h.len : Int) ≤ most) = false := by simpa using h200
    have B := hide (bAl (Below.refl w.heap.size w) (.cells #[.func (.func 64) #[] #[]] 104))
    have hst := @run_store Tryz.prog
    go_enter Tryz.func118, Tryz.ntmps118
    go_wp2_with fail
    go_ret
    have hle := unhide HL
    exact ⟨retB (b := false) ⟨fun h => (by cases h), fun h => absurd h.1 (by omega)⟩, unhide B⟩
end Go.Proofs.YtpfekkhnjaopdaaGreat.V
