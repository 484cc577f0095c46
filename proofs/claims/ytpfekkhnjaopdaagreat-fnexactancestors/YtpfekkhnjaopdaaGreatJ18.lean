/- ZGl, NKa, one behind the other. -/
import Derived.Test.YtpfekkhnjaopdaaGreatJ13
import Derived.Test.YtpfekkhnjaopdaaGreatJ10
import Derived.Test.YtpfekkhnjaopdaaGreatJ9
import Derived.Test.YtpfekkhnjaopdaaGreatJ17
import Derived.Test.YtpfekkhnjaopdaaGreatJ14
import Derived.Shelf.SlIterI.Sorted
/- Refs, and lists of refs and names. -/
namespace Go.Proofs.YtpfekkhnjaopdaaGreat.V
set_option linter.unusedSimpArgs false
open Go.RowKit

def refA (A : AtomT) : Bool := decide (A.x = 4) && A.good
set_option maxHeartbeats 400000 in
theorem isRef_any (A : AtomT) (w : World) (ho : A.Ok) :
    Calls Tryz.prog 26 #[.agg #[.int .i64 A.x, .int .i64 A.n, .string A.t, .string A.y]] w fun e w' => RetB e (refA A = true) ∧ Below w.heap.size w w' := by
  have q := hide (fun w => iGoodAtom_any A.x A.n A.t A.y w ho.n9 ho.t9 ho.y9)
  have B := hide (bAl (Below.refl w.heap.size w) (.cells #[.int .i64 A.x, .int .i64 A.n, .string A.t, .string A.y] 31))
  clear ho
  by_cases h4 : A.x = 4
  · have hr : Hid (refA A = goodAtom 4 A.n A.t A.y) := hide (by simp [refA, h4, AtomT.good])
    generalize refA A = G' at hr ⊢
    obtain ⟨x, n, t, y⟩ := A
    simp only at *
    subst h4
    go_enter Tryz.func26, Tryz.ntmps26
    go_wp2_with fail
    refine (unhide q _).mono ?_
    rintro e w1 ⟨rfl, hb⟩
    replace B := hide (bTr (unhide B) hb)
    clear hb
    generalize goodAtom 4 n t y = G at hr ⊢
    go_wp2_with fail
    go_ret
    exact ⟨retB (b := G) (by rw [unhide hr]), unhide B⟩
  · have d : (A.x == 4) = false := by simpa using h4
    have hr : Hid (refA A = false) := hide (by simp [refA, h4])
    go_enter Tryz.func26, Tryz.ntmps26
    go_wp2_with fail
    go_ret
    exact ⟨retB (b := false) (by rw [unhide hr]), unhide B⟩
set_option maxHeartbeats 400000 in
theorem l11Ref_any (A : AtomT) (w : World) (ho : A.Ok) :
    Calls Tryz.prog 22 #[.agg #[.int .i64 A.x, .int .i64 A.n, .string A.t, .string A.y]] w fun e w' => RetB e (refA A = true) ∧ Below w.heap.size w w' := by
  have q := hide (fun w => sGoodAtom_any A.x A.n A.t A.y w ho.n9 ho.t9 ho.y9)
  have B := hide (bAl (Below.refl w.heap.size w) (.cells #[.int .i64 A.x, .int .i64 A.n, .string A.t, .string A.y] 31))
  clear ho
  by_cases h4 : A.x = 4
  · have hr : Hid (refA A = goodAtom 4 A.n A.t A.y) := hide (by simp [refA, h4, AtomT.good])
    generalize refA A = G' at hr ⊢
    obtain ⟨x, n, t, y⟩ := A
    simp only at *
    subst h4
    go_enter Tryz.func22, Tryz.ntmps22
    go_wp2_with fail
    refine (unhide q _).mono ?_
    rintro e w1 ⟨rfl, hb⟩
    replace B := hide (bTr (unhide B) hb)
    clear hb
    generalize goodAtom 4 n t y = G at hr ⊢
    go_wp2_with fail
    go_ret
    exact ⟨retB (b := G) (by rw [unhide hr]), unhide B⟩
  · have d : (A.x == 4) = false := by simpa using h4
    have hr : Hid (refA A = false) := hide (by simp [refA, h4])
    go_enter Tryz.func22, Tryz.ntmps22
    go_wp2_with fail
    go_ret
    exact ⟨retB (b := false) (by rw [unhide hr]), unhide B⟩
set_option maxHeartbeats 1000000 in
theorem notGood_ref  (P : AtomT → Prop) (b : Nat) (x : AtomT) (w : World) (hc : w.cell? ⟨b, 0, none⟩ = some (.func (.func 26) #[] #[]))
    (q : ∀ w' : World, Below w.heap.size w w' → Calls Tryz.prog 26 #[.agg #[.int .i64 x.x, .int .i64 x.n, .string x.t, .string x.y]] w' fun e w'' => RetB e (P x) ∧ Below w'.heap.size w' w'') :
    Calls Tryz.prog 117 #[.agg #[.int .i64 x.x, .int .i64 x.n, .string x.t, .string x.y], .pointer (some ⟨b, 0, none⟩)] w fun e w' => RetB e (¬ P x) ∧ Below w.heap.size w w' := by
  have HB := hide (bAl (Below.refl w.heap.size w) (.cells #[.int .i64 x.x, .int .i64 x.n, .string x.t, .string x.y] 31))
  have zb : b < w.heap.size := World.block_lt_of_cell? w ⟨b, 0, none⟩ hc
  have Q := hide (q _ (unhide HB))
  clear q
  go_enter Tryz.func117, Tryz.ntmps117
  go_wp2_with fail
  refine (unhide Q).mono ?_
  rintro e w1 ⟨⟨v, rfl, hv⟩, hb⟩
  have B1 := hide (bTr (unhide HB) hb)
  have HV := hide hv
  clear hb HB Q hc hv
  go_wp2_with fail
  go_ret
  refine ⟨retB (b := !v) ?_, unhide B1⟩
  rw [← unhide HV]; cases v <;> simp
set_option maxHeartbeats 1000000 in
theorem indexBad_ref  (P : AtomT → Prop) (b : Nat) (h : Hd) (l : List AtomT) (w : World) (hl : l.length ≤ maxLen) (hs : SqA w 0 h l) (hc : w.cell? ⟨b, 0, none⟩ = some (.func (.func 26) #[] #[]))
    (q : ∀ x ∈ l, ∀ w' : World, Below w.heap.size w w' → Calls Tryz.prog 26 #[.agg #[.int .i64 x.x, .int .i64 x.n, .string x.t, .string x.y]] w' fun e w'' => RetB e (P x) ∧ Below w'.heap.size w' w'') :
    Calls Tryz.prog 130 #[.slice h.a h.len h.cap, .func (.func 117) #[] #[.pointer (some ⟨b, 0, none⟩)]] w fun e w' => (∃ v : Int, e = .returned (.int .i64 v) ∧ (0 ≤ v ↔ ¬ ∀ x ∈ l, P x)) ∧ Below w.heap.size w w' := by
  have HS := hide hs
  have zb : b < w.heap.size := World.block_lt_of_cell? w ⟨b, 0, none⟩ hc
  have HC := hide (fun (w' : World) (h : Below w.heap.size w w') => cellB (w' := w') h zb hc)
  have HQ := hide q
  have HL := hide hs.1
  have hlm : h.len ≤ maxLen := by rw [hs.1]; exact hl
  unfold maxLen at hlm
  obtain ⟨a, len, cap⟩ := h
  simp only at hlm HL
  clear hs hc q hl
  go_enter Tryz.func130, Tryz.ntmps130
  go_wp2_with fail
  go_loopw [8] (fun i w' => ∃ k : Nat, k ≤ len ∧ i = .int .i64 k ∧ Hid (Below w.heap.size w w') ∧ Hid (∀ i (h : i < l.length), i < k → P l[i])) (fun i _ => len - (Go.RowKit.intOf i).toNat)
  case atStart => exact ⟨0, Nat.zero_le _, rfl, hide (Below.refl _ _), hide (fun i _ h => absurd h (Nat.not_lt_zero _))⟩
  case round =>
    obtain ⟨k, hk, rfl, hb, hA⟩ := hrel
    by_cases hlt : k < len
    · have hk' : k < l.length := by have := unhide HL; omega
      obtain ⟨b1, off, e0, hrow⟩ := ((unhide HS).keep (unhide hb)).sl.at hlt
      simp only at e0
      subst e0
      have c0 := (hrow.c k hk').c0
      have c1 := (hrow.c k hk').c1
      have c2 := (hrow.c k hk').c2
      have c3 := (hrow.c k hk').c3
      have zk := hrow.z
      have q := hide (notGood_ref  P b l[k] wr (unhide HC _ (unhide hb)) (fun w' h => unhide HQ _ (List.getElem_mem hk') w' (bTr (unhide hb) h)))
      have eS : Hid (P l[k] → ∀ i (h : i < l.length), i < k + 1 → P l[i]) := hide (fun g i hi h1 => by
        rcases Nat.lt_or_ge i k with h2 | h2
        · exact unhide hA i hi h2
        · obtain rfl : i = k := by omega
          exact g)
      have eN : Hid (¬ P l[k] → ¬ ∀ x ∈ l, P x) := hide (fun g h => g (h _ (List.getElem_mem hk')))
      clear hrow
      generalize l[k] = A at *
      go_wp2_with fail
      refine (unhide q).mono ?_
      rintro e w1 ⟨⟨v, rfl, hv⟩, hb1⟩
      have B1 := hide (bTr (unhide hb) hb1)
      have HV := hide hv
      clear hb1 q hv c0 c1 c2 c3
      cases v
      · have S := hide (unhide eS (Classical.byContradiction fun h => by have := (unhide HV).2 h; cases this))
        clear eS eN HV
        go_wp2_with fail
        exact ⟨⟨k + 1, by omega, by go_num, B1, S⟩, by simp [Go.RowKit.intOf]; omega⟩
      · have N := hide (unhide eN ((unhide HV).1 rfl))
        clear eS eN HV
        go_wp2_with fail
        go_ret
        exact ⟨⟨_, rfl, fun _ => unhide N, fun _ => by omega⟩, unhide B1⟩
    · have S : Hid (∀ x ∈ l, P x) := hide (fun x hx => by
        obtain ⟨i, hi, rfl⟩ := List.getElem_of_mem hx
        exact unhide hA i hi (by have := unhide HL; omega))
      go_wp2_with fail
      go_ret
      exact ⟨⟨_, rfl, fun h => absurd h (by decide), fun h => absurd (unhide S) h⟩, unhide hb⟩
set_option maxHeartbeats 1000000 in
theorem goodList_ref  (P : AtomT → Prop) (most : Int) (h : Hd) (l : List AtomT) (w : World) (hl : l.length ≤ maxLen) (hs : SqA w 0 h l)
    (q : ∀ x ∈ l, ∀ w' : World, Below w.heap.size w w' → Calls Tryz.prog 26 #[.agg #[.int .i64 x.x, .int .i64 x.n, .string x.t, .string x.y]] w' fun e w'' => RetB e (P x) ∧ Below w'.heap.size w' w'') :
    Calls Tryz.prog 98 #[.slice h.a h.len h.cap, .int .i64 most, .func (.func 26) #[] #[]] w fun e w' => RetB e ((l.length : Int) ≤ most ∧ ∀ x ∈ l, P x) ∧ Below w.heap.size w w' := by
  have HS := hide hs
  have HQ := hide q
  have HL := hide hs.1
  have HM := hide hl
  clear hs q hl
  by_cases h200 : (h.len : Int) ≤ most
  · obtain ⟨W, hW⟩ : ∃ W, W = w.alloc (.cells #[.func (.func 26) #[] #[]] 53) := ⟨_, rfl⟩
    have R := show RowIs W w.heap.size #[.func (.func 26) #[] #[]] 53 by rw [hW]; exact RowIs.new _ _ _
    have B := hide (show Below w.heap.size w W by rw [hW]; exact bAl (Below.refl _ _) _)
    have HW := hide hW.symm
    clear hW
    have q := hide (fun hc => indexBad_ref  P w.heap.size h l W (unhide HM) ((unhide HS).keep (unhide B)) hc (fun x hx w' h => unhide HQ x hx w' (bTr (unhide B) h)))
    have q2 : Hid (Calls Tryz.prog 116 #[.slice h.a h.len h.cap, .func (.func 117) #[] #[.pointer (some ⟨w.heap.size, 0, none⟩)]] W fun e w' => (∃ v : Bool, e = .returned (.bool v) ∧ (v = true ↔ ¬ ∀ x ∈ l, P x)) ∧ Below W.heap.size W w') := hide (by
      have q := hide (unhide q (R.at (o := 0) rfl))
      go_enter Tryz.func116, Tryz.ntmps116
      go_wp2_with fail
      refine (unhide q).mono ?_
      rintro e w1 ⟨⟨v, rfl, hv⟩, hb⟩
      have HV := hide hv
      clear hv
      go_wp2_with fail
      go_ret
      exact ⟨⟨decide (0 ≤ v), rfl, by rw [decide_eq_true_iff]; exact unhide HV⟩, hb⟩)
    have hst := @run_store Tryz.prog
    clear q R
    go_enter Tryz.func98, Tryz.ntmps98
    go_wp2_with fail
    rw [unhide HW]
    refine (unhide q2).mono ?_
    rintro e w1 ⟨⟨v, rfl, hv⟩, hb⟩
    have HV := hide hv
    have B1 := hide (bTr (unhide B) hb)
    clear hv hb q2 hst HW B
    go_wp2_with fail
    go_ret
    have hle := unhide HL
    refine ⟨retB (b := !v) ⟨fun h => ?_, fun h => ?_⟩, unhide B1⟩
    · cases v
      · refine ⟨by omega, ?_⟩
        have := unhide HV
        exact Classical.byContradiction fun hn => by have := this.2 hn; cases this
      · cases h
    · cases v
      · rfl
      · exact absurd h.2 ((unhide HV).1 rfl)
  · have d : decide ((h.len : Int) ≤ most) = false := by simpa using h200
    have B := hide (bAl (Below.refl w.heap.size w) (.cells #[.func (.func 26) #[] #[]] 53))
    have hst := @run_store Tryz.prog
    go_enter Tryz.func98, Tryz.ntmps98
    go_wp2_with fail
    go_ret
    have hle := unhide HL
    exact ⟨retB (b := false) ⟨fun h => (by cases h), fun h => absurd h.1 (by omega)⟩, unhide B⟩
set_option maxHeartbeats 1000000 in
theorem notGood_name  (P : ByteArray → Prop) (b : Nat) (x : ByteArray) (w : World) (hc : w.cell? ⟨b, 0, none⟩ = some (.func (.func 64) #[] #[]))
    (q : ∀ w' : World, Below w.heap.size w w' → Calls Tryz.prog 64 #[.string x] w' fun e w'' => RetB e (P x) ∧ Below w'.heap.size w' w'') :
    Calls Tryz.prog 132 #[.string x, .pointer (some ⟨b, 0, none⟩)] w fun e w' => RetB e (¬ P x) ∧ Below w.heap.size w w' := by
  have HB := hide (Below.refl w.heap.size w)
  have zb : b < w.heap.size := World.block_lt_of_cell? w ⟨b, 0, none⟩ hc
  have Q := hide (q _ (unhide HB))
  clear q
  go_enter Tryz.func132, Tryz.ntmps132
  go_wp2_with fail
  refine (unhide Q).mono ?_
  rintro e w1 ⟨⟨v, rfl, hv⟩, hb⟩
  have B1 := hide (bTr (unhide HB) hb)
  have HV := hide hv
  clear hb HB Q hc hv
  go_wp2_with fail
  go_ret
  refine ⟨retB (b := !v) ?_, unhide B1⟩
  rw [← unhide HV]; cases v <;> simp
set_option maxHeartbeats 1000000 in
theorem indexBad_name  (P : ByteArray → Prop) (b : Nat) (h : Hd) (l : List ByteArray) (w : World) (hl : l.length ≤ maxLen) (hs : SqS w 0 h l) (hc : w.cell? ⟨b, 0, none⟩ = some (.func (.func 64) #[] #[]))
    (q : ∀ x ∈ l, ∀ w' : World, Below w.heap.size w w' → Calls Tryz.prog 64 #[.string x] w' fun e w'' => RetB e (P x) ∧ Below w'.heap.size w' w'') :
    Calls Tryz.prog 137 #[.slice h.a h.len h.cap, .func (.func 132) #[] #[.pointer (some ⟨b, 0, none⟩)]] w fun e w' => (∃ v : Int, e = .returned (.int .i64 v) ∧ (0 ≤ v ↔ ¬ ∀ x ∈ l, P x)) ∧ Below w.heap.size w w' := by
  have HS := hide hs
  have zb : b < w.heap.size := World.block_lt_of_cell? w ⟨b, 0, none⟩ hc
  have HC := hide (fun (w' : World) (h : Below w.heap.size w w') => cellB (w' := w') h zb hc)
  have HQ := hide q
  have HL := hide hs.1
  have hlm : h.len ≤ maxLen := by rw [hs.1]; exact hl
  unfold maxLen at hlm
  obtain ⟨a, len, cap⟩ := h
  simp only at hlm HL
  clear hs hc q hl
  go_enter Tryz.func137, Tryz.ntmps137
  go_wp2_with fail
  go_loopw [8] (fun i w' => ∃ k : Nat, k ≤ len ∧ i = .int .i64 k ∧ Hid (Below w.heap.size w w') ∧ Hid (∀ i (h : i < l.length), i < k → P l[i])) (fun i _ => len - (Go.RowKit.intOf i).toNat)
  case atStart => exact ⟨0, Nat.zero_le _, rfl, hide (Below.refl _ _), hide (fun i _ h => absurd h (Nat.not_lt_zero _))⟩
  case round =>
    obtain ⟨k, hk, rfl, hb, hA⟩ := hrel
    by_cases hlt : k < len
    · have hk' : k < l.length := by have := unhide HL; omega
      obtain ⟨b1, off, e0, hrow⟩ := ((unhide HS).keep (unhide hb)).sl.at hlt
      simp only at e0
      subst e0
      have c0 := hrow.c k hk'
      have zk := hrow.z
      have q := hide (notGood_name  P b l[k] wr (unhide HC _ (unhide hb)) (fun w' h => unhide HQ _ (List.getElem_mem hk') w' (bTr (unhide hb) h)))
      have eS : Hid (P l[k] → ∀ i (h : i < l.length), i < k + 1 → P l[i]) := hide (fun g i hi h1 => by
        rcases Nat.lt_or_ge i k with h2 | h2
        · exact unhide hA i hi h2
        · obtain rfl : i = k := by omega
          exact g)
      have eN : Hid (¬ P l[k] → ¬ ∀ x ∈ l, P x) := hide (fun g h => g (h _ (List.getElem_mem hk')))
      clear hrow
      generalize l[k] = A at *
      go_wp2_with fail
      refine (unhide q).mono ?_
      rintro e w1 ⟨⟨v, rfl, hv⟩, hb1⟩
      have B1 := hide (bTr (unhide hb) hb1)
      have HV := hide hv
      clear hb1 q hv c0
      cases v
      · have S := hide (unhide eS (Classical.byContradiction fun h => by have := (unhide HV).2 h; cases this))
        clear eS eN HV
        go_wp2_with fail
        exact ⟨⟨k + 1, by omega, by go_num, B1, S⟩, by simp [Go.RowKit.intOf]; omega⟩
      · have N := hide (unhide eN ((unhide HV).1 rfl))
        clear eS eN HV
        go_wp2_with fail
        go_ret
        exact ⟨⟨_, rfl, fun _ => unhide N, fun _ => by omega⟩, unhide B1⟩
    · have S : Hid (∀ x ∈ l, P x) := hide (fun x hx => by
        obtain ⟨i, hi, rfl⟩ := List.getElem_of_mem hx
        exact unhide hA i hi (by have := unhide HL; omega))
      go_wp2_with fail
      go_ret
      exact ⟨⟨_, rfl, fun h => absurd h (by decide), fun h => absurd (unhide S) h⟩, unhide hb⟩
set_option maxHeartbeats 1000000 in
theorem goodList_name  (P : ByteArray → Prop) (most : Int) (h : Hd) (l : List ByteArray) (w : World) (hl : l.length ≤ maxLen) (hs : SqS w 0 h l)
    (q : ∀ x ∈ l, ∀ w' : World, Below w.heap.size w w' → Calls Tryz.prog 64 #[.string x] w' fun e w'' => RetB e (P x) ∧ Below w'.heap.size w' w'') :
    Calls Tryz.prog 118 #[.slice h.a h.len h.cap, .int .i64 most, .func (.func 64) #[] #[]] w fun e w' => RetB e ((l.length : Int) ≤ most ∧ ∀ x ∈ l, P x) ∧ Below w.heap.size w w' := by
  have HS := hide hs
  have HQ := hide q
  have HL := hide hs.1
  have HM := hide hl
  clear hs q hl
  by_cases h200 : (h.len : Int) ≤ most
  · obtain ⟨W, hW⟩ : ∃ W, W = w.alloc (.cells #[.func (.func 64) #[] #[]] 104) := ⟨_, rfl⟩
    have R := show RowIs W w.heap.size #[.func (.func 64) #[] #[]] 104 by rw [hW]; exact RowIs.new _ _ _
    have B := hide (show Below w.heap.size w W by rw [hW]; exact bAl (Below.refl _ _) _)
    have HW := hide hW.symm
    clear hW
    have q := hide (fun hc => indexBad_name  P w.heap.size h l W (unhide HM) ((unhide HS).keep (unhide B)) hc (fun x hx w' h => unhide HQ x hx w' (bTr (unhide B) h)))
    have q2 : Hid (Calls Tryz.prog 131 #[.slice h.a h.len h.cap, .func (.func 132) #[] #[.pointer (some ⟨w.heap.size, 0, none⟩)]] W fun e w' => (∃ v : Bool, e = .returned (.bool v) ∧ (v = true ↔ ¬ ∀ x ∈ l, P x)) ∧ Below W.heap.size W w') := hide (by
      have q := hide (unhide q (R.at (o := 0) rfl))
      go_enter Tryz.func131, Tryz.ntmps131
      go_wp2_with fail
      refine (unhide q).mono ?_
      rintro e w1 ⟨⟨v, rfl, hv⟩, hb⟩
      have HV := hide hv
      clear hv
      go_wp2_with fail
      go_ret
      exact ⟨⟨decide (0 ≤ v), rfl, by rw [decide_eq_true_iff]; exact unhide HV⟩, hb⟩)
    have hst := @run_store Tryz.prog
    clear q R
    go_enter Tryz.func118, Tryz.ntmps118
    go_wp2_with fail
    rw [unhide HW]
    refine (unhide q2).mono ?_
    rintro e w1 ⟨⟨v, rfl, hv⟩, hb⟩
    have HV := hide hv
    have B1 := hide (bTr (unhide B) hb)
    clear hv hb q2 hst HW B
    go_wp2_with fail
    go_ret
    have hle := unhide HL
    refine ⟨retB (b := !v) ⟨fun h => ?_, fun h => ?_⟩, unhide B1⟩
    · cases v
      · refine ⟨by omega, ?_⟩
        have := unhide HV
        exact Classical.byContradiction fun hn => by have := this.2 hn; cases this
      · cases h
    · cases v
      · rfl
      · exact absurd h.2 ((unhide HV).1 rfl)
  · have d : decide ((h.len : Int) ≤ most) = false := by simpa using h200
    have B := hide (bAl (Below.refl w.heap.size w) (.cells #[.func (.func 64) #[] #[]] 104))
    have hst := @run_store Tryz.prog
    go_enter Tryz.func118, Tryz.ntmps118
    go_wp2_with fail
    go_ret
    have hle := unhide HL
    exact ⟨retB (b := false) ⟨fun h => (by cases h), fun h => absurd h.1 (by omega)⟩, unhide B⟩
end Go.Proofs.YtpfekkhnjaopdaaGreat.V
/- Atoms as keys of maps; sets of atoms. -/
namespace Go.Proofs.YtpfekkhnjaopdaaGreat.V
set_option linter.unusedSimpArgs false
set_option linter.unusedVariables false
open Go.RowKit Go.Maps

def okI (z : Int) : Prop := (Lit.int .i64 z).wf = true
theorem okI_of {z : Int} (h1 : -9223372036854775808 ≤ z) (h2 : z ≤ 9223372036854775807) : okI z := by
  have h : IntKind.i64.wrap z = z := by rw [IntKind.wrap_i64]; omega
  unfold okI Lit.wf
  simp [h]
  exact ⟨h1, h2⟩
set_option maxRecDepth 100000 in
theorem lits_int {m : Nat} {c : Value} {l : List Lit} (h : Tryz.prog.keyLits m 3 [c] = some l) : ∃ z, c = .int .i64 z ∧ okI z := by
  cases m with
  | zero => simp [Program.keyLits] at h
  | succ m =>
    unfold Program.keyLits at h
    rw [Tryz.underlying3] at h
    cases c <;> simp at h
    obtain ⟨⟨rfl, hw⟩, _⟩ := h
    exact ⟨_, rfl, hw⟩
set_option maxRecDepth 100000 in
theorem lits_str {m : Nat} {c : Value} {l : List Lit} (h : Tryz.prog.keyLits m 9 [c] = some l) : ∃ z, c = .string z ∧ z.size ≤ maxLen := by
  cases m with
  | zero => simp [Program.keyLits] at h
  | succ m =>
    unfold Program.keyLits at h
    rw [Tryz.underlying9] at h
    cases c <;> simp at h
    exact ⟨_, rfl, h.1⟩
theorem pos_succ {n k : Nat} (h : k < n) : ∃ m, n = m + 1 := ⟨n - 1, by omega⟩
theorem mLaid : laidOutB Tryz.prog = true := by kernel_rfl
def encA (a : AtomT) : Value := .agg #[.int .i64 a.x, .int .i64 a.n, .string a.t, .string a.y]
structure OkA (a : AtomT) : Prop where
  x : okI a.x
  n : okI a.n
  t : a.t.size ≤ maxLen
  y : a.y.size ≤ maxLen
theorem mRowA : (31 : TypeId) < Tryz.prog.types.size := of_decide_eq_true (by kernel_rfl)
set_option maxRecDepth 100000 in
theorem lawA : Keyed Tryz.prog 31 := Keyed.of_law (deep_law_laid mLaid (m := 2) (by omega) mRowA (by kernel_rfl) (by rw [Tryz.underlying31]))
set_option maxRecDepth 100000 in
theorem key_atom (a : AtomT) (h : OkA a) : ∃ kl, keyOf Tryz.prog 31 (encA a) = some kl := by
  obtain ⟨x, n, t, y⟩ := a
  obtain ⟨h1, h2, h3, h4⟩ := h
  simp only at h1 h2 h3 h4
  unfold encA
  have hk : Tryz.prog.keyType 31 = true := by kernel_rfl
  have hc : Tryz.prog.cellsOf 31 = 4 := by kernel_rfl
  have c3 : Tryz.prog.cellsOf 3 = 1 := by kernel_rfl
  have c9 : Tryz.prog.cellsOf 9 = 1 := by kernel_rfl
  have hf : (Value.agg #[.int .i64 x, .int .i64 n, .string t, .string y]).formed Tryz.prog 31 = true := by simp [Value.formed, Tryz.underlying31, hc]
  obtain ⟨m, hm⟩ := pos_succ mRowA
  unfold keyOf
  rw [Tryz.underlying31]
  simp only [hk, hf, Bool.and_self, if_true]
  rw [hm]
  unfold Program.keyLits
  rw [Tryz.underlying31]
  have e9 : ∀ z : ByteArray, z.size ≤ maxLen → ∃ lz, Tryz.prog.keyLits (m + 1) 9 [.string z] = some lz := by
    intro z hz
    unfold Program.keyLits
    rw [Tryz.underlying9]
    simp [hz]
  have e3 : ∀ z : Int, okI z → ∃ lz, Tryz.prog.keyLits (m + 1) 3 [.int .i64 z] = some lz := by
    intro z hz
    unfold okI at hz
    unfold Program.keyLits
    rw [Tryz.underlying3]
    simp [hz]
  obtain ⟨l0, e0⟩ := e3 x h1
  obtain ⟨l1, e1⟩ := e3 n h2
  obtain ⟨l2, e2⟩ := e9 t h3
  obtain ⟨l3, e4⟩ := e9 y h4
  simp [Value.cells, hc, c3, c9, e0, e1, e2, e4]
set_option maxRecDepth 100000 in
theorem keyA_all {v : Value} {kl : Lit} (h : keyOf Tryz.prog 31 v = some kl) : ∃ x, v = encA x ∧ OkA x := by
  have hc : Tryz.prog.cellsOf 31 = 4 := by kernel_rfl
  have c3 : Tryz.prog.cellsOf 3 = 1 := by kernel_rfl
  have c9 : Tryz.prog.cellsOf 9 = 1 := by kernel_rfl
  obtain ⟨m, hm⟩ := pos_succ mRowA
  unfold keyOf at h
  rw [Tryz.underlying31] at h
  simp only at h
  split at h
  · rename_i hf
    simp only [Bool.and_eq_true] at hf
    have hf2 := hf.2
    unfold Value.formed at hf2
    rw [Tryz.underlying31] at hf2
    cases v with
    | agg cs =>
      simp only [hc, beq_iff_eq] at hf2
      obtain ⟨ls, hl, _⟩ := Option.map_eq_some_iff.1 h
      obtain ⟨l⟩ := cs
      match l, hf2 with
      | [a, b, c, d], _ =>
        rw [hm] at hl
        unfold Program.keyLits at hl
        rw [Tryz.underlying31] at hl
        simp [Value.cells, hc, c3, c9] at hl
        obtain ⟨x0, hx0, hl⟩ := Option.bind_eq_some_iff.1 hl
        obtain ⟨r0, hl, _⟩ := Option.map_eq_some_iff.1 hl
        obtain ⟨r1, hl, _⟩ := Option.bind_eq_some_iff.1 hl
        obtain ⟨x1, hx1, hl⟩ := Option.bind_eq_some_iff.1 hl
        obtain ⟨r2, hl, _⟩ := Option.bind_eq_some_iff.1 hl
        obtain ⟨x2, hx2, hl⟩ := Option.bind_eq_some_iff.1 hl
        obtain ⟨r3, hl, _⟩ := Option.bind_eq_some_iff.1 hl
        obtain ⟨x3, hx3, _⟩ := Option.bind_eq_some_iff.1 hl
        obtain ⟨z0, rfl, h0⟩ := lits_int hx0
        obtain ⟨z1, rfl, h1⟩ := lits_int hx1
        obtain ⟨z2, rfl, h2⟩ := lits_str hx2
        obtain ⟨z3, rfl, h3⟩ := lits_str hx3
        exact ⟨⟨z0, z1, z2, z3⟩, rfl, ⟨h0, h1, h2, h3⟩⟩
    | _ => simp at hf2
  · cases h
theorem encA_inj {x y : AtomT} (h : encA x = encA y) : x = y := by
  obtain ⟨a, b, c, d⟩ := x
  obtain ⟨e, f, g, k⟩ := y
  simpa [encA] using h
theorem kAtom : KeyKind Tryz.prog 31 encA OkA where
  law := lawA
  key x hx := key_atom x hx
  inv v kl h := keyA_all h
  inj x y h := encA_inj h
abbrev KAt (w : World) (b n : Nat) (m : AtomT → Option Value) : Prop := KM Tryz.prog 31 encA w b n m
/-- What the map of a set of atoms holds. -/
noncomputable def seA (S : AtomT → Prop) : AtomT → Option Value := fun p => @ite _ (S p) (Classical.propDecidable _) (some (.agg #[])) none
theorem seA_isSome {S : AtomT → Prop} {p : AtomT} : (seA S p).isSome = true ↔ S p := by
  unfold seA
  by_cases h : S p
  · rw [if_pos h]; simp [h]
  · rw [if_neg h]; simp [h]
noncomputable instance : DecidableEq AtomT := fun _ _ => Classical.propDecidable _
theorem seA_put (S : AtomT → Prop) (x : AtomT) : updK (seA S) x (.agg #[]) = seA (fun p => S p ∨ p = x) := by
  funext p
  unfold updK seA
  by_cases h : p = x
  · rw [if_pos h, if_pos (.inr h)]
  · rw [if_neg h]
    by_cases k : S p
    · rw [if_pos k, if_pos (.inl k)]
    · rw [if_neg k, if_neg (fun q => q.elim k h)]
theorem seA_congr {S T : AtomT → Prop} (h : ∀ p, S p ↔ T p) : seA S = seA T := by
  have : S = T := by funext p; exact propext (h p)
  rw [this]
theorem zeroSt (w : World) : (zeroValue 70).run Tryz.prog w = .ok (.agg #[]) w := by kernel_rfl
set_option maxHeartbeats 400000 in
theorem addA_any (b n : Nat) (S : AtomT → Prop) (x : AtomT) (w : World) (hm : KAt w b n (seA S)) (hn : n < maxLen) (hx : OkA x) :
    Calls Tryz.prog 88 #[.map (some b), encA x] w fun e w' => e = .returned (.tuple #[]) ∧ KAt w' b (n + 1) (seA fun p => S p ∨ p = x) ∧ w.grownBy w' (some b) := by
  obtain ⟨W, hW⟩ : ∃ W, W = w.alloc (.cells #[.int .i64 x.x, .int .i64 x.n, .string x.t, .string x.y] 31) := ⟨_, rfl⟩
  have HM := hide (show KAt W b n (seA S) by rw [hW]; exact hm.kept (World.grownBy_alloc _ _ none) (by simp))
  have g0 := hide (show w.grownBy W (some b) by rw [hW]; exact World.grownBy_alloc _ _ _)
  have HW := hide hW.symm
  have eM := hide (seA_put S x)
  clear hm hW
  unfold encA
  go_enter Tryz.func88, Tryz.ntmps88
  go_wp2_with (at_mapUpdate; rw [unhide HW]; refine wpList_put_km _ kAtom rfl _ _ _ _ rfl _ Tryz.underlying69 b n _ rfl (unhide HM) hn x (.agg #[]) rfl rfl hx ?_; intro w1 h1 h2 h3; rw [unhide eM] at h1)
  go_end0
  exact ⟨rfl, h1, (unhide g0).trans h2⟩
set_option maxHeartbeats 400000 in
theorem hasA_any (b n : Nat) (S : AtomT → Prop) (x : AtomT) (w : World) (hm : KAt w b n (seA S)) (hx : OkA x) :
    Calls Tryz.prog 68 #[.map (some b), encA x] w fun e w' => RetB e (S x) ∧ Below w.heap.size w w' := by
  obtain ⟨W, hW⟩ : ∃ W, W = w.alloc (.cells #[.int .i64 x.x, .int .i64 x.n, .string x.t, .string x.y] 31) := ⟨_, rfl⟩
  have bW : Below w.heap.size w W := by rw [hW]; exact bAl (Below.refl _ _) _
  have HM := hide (hm.keepB bW hm.lt)
  have BW := hide bW
  have HW := hide hW.symm
  have D := hide (seA_isSome (S := S) (p := x))
  have hv : Hid ((seA S x).getD (.agg #[]) = .agg #[]) := hide (by unfold seA; by_cases h : S x <;> simp [h])
  obtain ⟨r, hr⟩ : ∃ r, (seA S x).isSome = r := ⟨_, rfl⟩
  have HR := hide hr
  rw [hr] at D
  clear hm hW bW hr
  unfold encA
  go_enter Tryz.func68, Tryz.ntmps68
  go_wp2_with (at_lookup; rw [unhide HW]; refine wpList_look_km _ kAtom rfl _ _ _ rfl _ Tryz.underlying69 (zeroSt _) b n _ rfl (unhide HM) x rfl hx _ _ (unhide hv) (unhide HR) ?_)
  go_ret
  exact ⟨retB (b := r) (unhide D), by first | exact unhide BW | exact bAl (unhide BW) _⟩
end Go.Proofs.YtpfekkhnjaopdaaGreat.V
