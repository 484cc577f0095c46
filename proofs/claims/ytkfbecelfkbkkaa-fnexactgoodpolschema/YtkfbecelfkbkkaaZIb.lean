/- impl.polIndex: isType, goodTypes. -/
import Derived.Test.YtkfbecelfkbkkaaZIa
import Derived.Test.YtkfbecelfkbkkaaGMap
import Derived.Test.YtkfbecelfkbkkaaZKj
import Derived.BigQuiet
namespace Go.Proofs.Ytkfbecelfkbkkaa.V
set_option linter.unusedSimpArgs false
set_option linter.unusedVariables false
open Go.RowKit

abbrev KStr (w : World) (b n : Nat) (m : ByteArray → Option Value) : Prop := KM Try.prog 9 Value.string w b n m
/-- A map whose keys are the names. -/
def KT (w : World) (b : Nat) (ns : List ByteArray) : Prop := ∃ n M, KStr w b n M ∧ (∀ s, (M s).isSome = true ↔ s ∈ ns) ∧ ∀ s v, M s = some v → ∃ h h' : Hd, v = .agg #[.slice h.a h.len h.cap, .slice h'.a h'.len h'.cap]
theorem KT.keep {w w' : World} {b : Nat} {ns : List ByteArray} (h : KT w b ns) (hb : Below w.heap.size w w') : KT w' b ns := by
  obtain ⟨n, M, h1, h2⟩ := h
  exact ⟨n, M, h1.keepB hb h1.lt, h2⟩
theorem KT.lt {w : World} {b : Nat} {ns : List ByteArray} (h : KT w b ns) : b < w.heap.size := by
  obtain ⟨n, M, h1, _⟩ := h
  exact h1.lt
theorem zeroTK (w : World) : (zeroValue 144).run Try.prog w = .ok (.agg #[.slice none 0 0, .slice none 0 0]) w := by
  kernel_rfl
set_option maxHeartbeats 1000000 in
theorem isType_n (b1 b2 : Nat) (ns : List ByteArray) (s : ByteArray) (w : World) (hs : s.size ≤ maxLen) (hk : KT w b1 ns) :
    Calls Try.prog 125 #[.agg #[.map (some b1), .map (some b2)], .string s] w fun r w' => RetB r (s ∈ ns) ∧ Below w.heap.size w w' := by
  obtain ⟨n, M, hM, hiff, hsh⟩ := hk
  have zb := hM.lt
  have B := hide (bAl (Below.refl w.heap.size w) (.cells #[.map (some b1), .map (some b2)] 102))
  have HM := hide (hM.keepB (unhide B) zb)
  have D := hide (hiff s)
  clear hiff hM
  cases hm : M s
  · have er : Hid ((M s).isSome = false) := hide (by rw [hm]; rfl)
    have ev : Hid ((M s).getD (.agg #[.slice none 0 0, .slice none 0 0]) = .agg #[.slice none 0 0, .slice none 0 0]) := hide (by rw [hm]; rfl)
    have no : Hid (¬ s ∈ ns) := hide (fun h => by have := (unhide D).2 h; rw [hm] at this; cases this)
    clear hm D hsh
    go_enter Try.func125, Try.ntmps125
    go_wp2_with (at_lookup; refine wpList_look_km _ kStr rfl _ _ _ rfl _ Try.underlying99 (zeroTK _) b1 n _ rfl (unhide HM) s rfl hs _ _ (unhide ev) (unhide er) ?_)
    go_ret
    exact ⟨retB (b := false) ⟨fun h => (by cases h), fun h => absurd h (unhide no)⟩, bAl (unhide B) _⟩
  · rename_i v
    obtain ⟨h, h', rfl⟩ := hsh s v hm
    have er : Hid ((M s).isSome = true) := hide (by rw [hm]; rfl)
    have ev : Hid ((M s).getD (.agg #[.slice none 0 0, .slice none 0 0]) = .agg #[.slice h.a h.len h.cap, .slice h'.a h'.len h'.cap]) := hide (by rw [hm]; rfl)
    have yes : Hid (s ∈ ns) := hide ((unhide D).1 (by rw [hm]; rfl))
    clear hm D hsh
    go_enter Try.func125, Try.ntmps125
    go_wp2_with (at_lookup; refine wpList_look_km _ kStr rfl _ _ _ rfl _ Try.underlying99 (zeroTK _) b1 n _ rfl (unhide HM) s rfl hs _ _ (unhide ev) (unhide er) ?_)
    go_ret
    exact ⟨retB (b := true) ⟨fun _ => unhide yes, fun _ => rfl⟩, bAl (unhide B) _⟩
set_option maxHeartbeats 1000000 in
theorem notGood_typ (b1 b2 : Nat) (P : ByteArray → Prop) (b : Nat) (x : ByteArray) (w : World) (hc : w.cell? ⟨b, 0, none⟩ = some (.func (.func 125) #[.agg #[.map (some b1), .map (some b2)]] #[]))
    (q : ∀ w' : World, Below w.heap.size w w' → Calls Try.prog 125 #[.agg #[.map (some b1), .map (some b2)], .string x] w' fun e w'' => RetB e (P x) ∧ Below w'.heap.size w' w'') :
    Calls Try.prog 107 #[.string x, .pointer (some ⟨b, 0, none⟩)] w fun e w' => RetB e (¬ P x) ∧ Below w.heap.size w w' := by
  have HB := hide (Below.refl w.heap.size w)
  have zb : b < w.heap.size := World.block_lt_of_cell? w ⟨b, 0, none⟩ hc
  have Q := hide (q _ (unhide HB))
  clear q
  go_enter Try.func107, Try.ntmps107
  go_wp2_with fail
  refine (unhide Q).mono ?_
  rintro e w1 ⟨⟨v, rfl, hv⟩, hb⟩
  have B1 := hide (bTr (unhide HB) hb)
  have HV := hide hv
  clear hb HB Q hc hv
  go_wp2_with fail
  go_ret
  refine ⟨retB (b := !v) ?_, unhide B1⟩
  rw [← unhide HV]; cases v <;> simp
set_option maxHeartbeats 1000000 in
theorem indexBad_typ (b1 b2 : Nat) (P : ByteArray → Prop) (b : Nat) (h : Hd) (l : List ByteArray) (w : World) (hl : l.length ≤ maxLen) (hs : SqS w 0 h l) (hc : w.cell? ⟨b, 0, none⟩ = some (.func (.func 125) #[.agg #[.map (some b1), .map (some b2)]] #[]))
    (q : ∀ x ∈ l, ∀ w' : World, Below w.heap.size w w' → Calls Try.prog 125 #[.agg #[.map (some b1), .map (some b2)], .string x] w' fun e w'' => RetB e (P x) ∧ Below w'.heap.size w' w'') :
    Calls Try.prog 132 #[.slice h.a h.len h.cap, .func (.func 107) #[] #[.pointer (some ⟨b, 0, none⟩)]] w fun e w' => (∃ v : Int, e = .returned (.int .i64 v) ∧ (0 ≤ v ↔ ¬ ∀ x ∈ l, P x)) ∧ Below w.heap.size w w' := by
  have HS := hide hs
  have zb : b < w.heap.size := World.block_lt_of_cell? w ⟨b, 0, none⟩ hc
  have HC := hide (fun (w' : World) (h : Below w.heap.size w w') => cellB (w' := w') h zb hc)
  have HQ := hide q
  have HL := hide hs.1
  have hlm : h.len ≤ maxLen := by rw [hs.1]; exact hl
  unfold maxLen at hlm
  obtain ⟨a, len, cap⟩ := h
  simp only at hlm HL
  clear hs hc q hl
  go_enter Try.func132, Try.ntmps132
  go_wp2_with fail
  go_loopw [8] (fun i w' => ∃ k : Nat, k ≤ len ∧ i = .int .i64 k ∧ Hid (Below w.heap.size w w') ∧ Hid (∀ i (h : i < l.length), i < k → P l[i])) (fun i _ => len - (Go.RowKit.intOf i).toNat)
  case atStart => exact ⟨0, Nat.zero_le _, rfl, hide (Below.refl _ _), hide (fun i _ h => absurd h (Nat.not_lt_zero _))⟩
  case round =>
    obtain ⟨k, hk, rfl, hb, hA⟩ := hrel
    by_cases hlt : k < len
    · have hk' : k < l.length := by have := unhide HL; omega
      obtain ⟨bb_, off, e0, hrow⟩ := ((unhide HS).keep (unhide hb)).sl.at hlt
      simp only at e0
      subst e0
      have c0 := hrow.c k hk'
      have zk := hrow.z
      have q := hide (notGood_typ b1 b2 P b l[k] wr (unhide HC _ (unhide hb)) (fun w' h => unhide HQ _ (List.getElem_mem hk') w' (bTr (unhide hb) h)))
      have eS : Hid (P l[k] → ∀ i (h : i < l.length), i < k + 1 → P l[i]) := hide (fun g i hi h1 => by
        rcases Nat.lt_or_ge i k with h2 | h2
        · exact unhide hA i hi h2
        · obtain rfl : i = k := by omega
          exact g)
      have eN : Hid (¬ P l[k] → ¬ ∀ x ∈ l, P x) := hide (fun g h => g (h _ (List.getElem_mem hk')))
      clear hrow
      generalize l[k] = A at *
      go_wp2_with fail
      refine (unhide q).mono ?_
      rintro e w1 ⟨⟨v, rfl, hv⟩, hb1⟩
      have B1 := hide (bTr (unhide hb) hb1)
      have HV := hide hv
      clear hb1 q hv c0
      cases v
      · have S := hide (unhide eS (Classical.byContradiction fun h => by have := (unhide HV).2 h; cases this))
        clear eS eN HV
        go_wp2_with fail
        exact ⟨⟨k + 1, by omega, by go_num, B1, S⟩, by simp [Go.RowKit.intOf]; omega⟩
      · have N := hide (unhide eN ((unhide HV).1 rfl))
        clear eS eN HV
        go_wp2_with fail
        go_ret
        exact ⟨⟨_, rfl, fun _ => unhide N, fun _ => by omega⟩, unhide B1⟩
    · have S : Hid (∀ x ∈ l, P x) := hide (fun x hx => by
        obtain ⟨i, hi, rfl⟩ := List.getElem_of_mem hx
        exact unhide hA i hi (by have := unhide HL; omega))
      go_wp2_with fail
      go_ret
      exact ⟨⟨_, rfl, fun h => absurd h (by decide), fun h => absurd (unhide S) h⟩, unhide hb⟩
set_option maxHeartbeats 1000000 in
theorem goodList_typ (b1 b2 : Nat) (P : ByteArray → Prop) (most : Int) (h : Hd) (l : List ByteArray) (w : World) (hl : l.length ≤ maxLen) (hs : SqS w 0 h l)
    (q : ∀ x ∈ l, ∀ w' : World, Below w.heap.size w w' → Calls Try.prog 125 #[.agg #[.map (some b1), .map (some b2)], .string x] w' fun e w'' => RetB e (P x) ∧ Below w'.heap.size w' w'') :
    Calls Try.prog 73 #[.slice h.a h.len h.cap, .int .i64 most, .func (.func 125) #[.agg #[.map (some b1), .map (some b2)]] #[]] w fun e w' => RetB e ((l.length : Int) ≤ most ∧ ∀ x ∈ l, P x) ∧ Below w.heap.size w w' := by
  have HS := hide hs
  have HQ := hide q
  have HL := hide hs.1
  have HM := hide hl
  clear hs q hl
  by_cases h200 : (h.len : Int) ≤ most
  · obtain ⟨W, hW⟩ : ∃ W, W = w.alloc (.cells #[.func (.func 125) #[.agg #[.map (some b1), .map (some b2)]] #[]] 91) := ⟨_, rfl⟩
    have R := show RowIs W w.heap.size #[.func (.func 125) #[.agg #[.map (some b1), .map (some b2)]] #[]] 91 by rw [hW]; exact RowIs.new _ _ _
    have B := hide (show Below w.heap.size w W by rw [hW]; exact bAl (Below.refl _ _) _)
    have HW := hide hW.symm
    clear hW
    have q := hide (fun hc => indexBad_typ b1 b2 P w.heap.size h l W (unhide HM) ((unhide HS).keep (unhide B)) hc (fun x hx w' h => unhide HQ x hx w' (bTr (unhide B) h)))
    have q2 : Hid (Calls Try.prog 106 #[.slice h.a h.len h.cap, .func (.func 107) #[] #[.pointer (some ⟨w.heap.size, 0, none⟩)]] W fun e w' => (∃ v : Bool, e = .returned (.bool v) ∧ (v = true ↔ ¬ ∀ x ∈ l, P x)) ∧ Below W.heap.size W w') := hide (by
      have q := hide (unhide q (R.at (o := 0) rfl))
      go_enter Try.func106, Try.ntmps106
      go_wp2_with fail
      refine (unhide q).mono ?_
      rintro e w1 ⟨⟨v, rfl, hv⟩, hb⟩
      have HV := hide hv
      clear hv
      go_wp2_with fail
      go_ret
      exact ⟨⟨decide (0 ≤ v), rfl, by rw [decide_eq_true_iff]; exact unhide HV⟩, hb⟩)
    have hst := @run_store Try.prog
    clear q R
    go_enter Try.func73, Try.ntmps73
    go_wp2_with fail
    rw [unhide HW]
    refine (unhide q2).mono ?_
    rintro e w1 ⟨⟨v, rfl, hv⟩, hb⟩
    have HV := hide hv
    have B1 := hide (bTr (unhide B) hb)
    clear hv hb q2 hst HW B
    go_wp2_with fail
    go_ret
    have hle := unhide HL
    refine ⟨retB (b := !v) ⟨fun h => ?_, fun h => ?_⟩, unhide B1⟩
    · cases v
      · refine ⟨by omega, ?_⟩
        have := unhide HV
        exact Classical.byContradiction fun hn => by have := this.2 hn; cases this
      · cases h
    · cases v
      · rfl
      · exact absurd h.2 ((unhide HV).1 rfl)
  · have d : decide ((h.len : Int) ≤ most) = false := by simpa using h200
    have B := hide (bAl (Below.refl w.heap.size w) (.cells #[.func (.func 125) #[.agg #[.map (some b1), .map (some b2)]] #[]] 91))
    have hst := @run_store Try.prog
    go_enter Try.func73, Try.ntmps73
    go_wp2_with fail
    go_ret
    have hle := unhide HL
    exact ⟨retB (b := false) ⟨fun h => (by cases h), fun h => absurd h.1 (by omega)⟩, unhide B⟩
set_option maxHeartbeats 400000 in
theorem every_typ (b1 b2 : Nat) (P : ByteArray → Prop) (h : Hd) (l : List ByteArray) (w : World) (hl : l.length ≤ maxLen) (hs : SqS w 0 h l)
    (q : ∀ x ∈ l, ∀ w' : World, Below w.heap.size w w' → Calls Try.prog 125 #[.agg #[.map (some b1), .map (some b2)], .string x] w' fun e w'' => RetB e (P x) ∧ Below w'.heap.size w' w'') :
    Calls Try.prog 147 #[.slice h.a h.len h.cap, .func (.func 125) #[.agg #[.map (some b1), .map (some b2)]] #[]] w fun e w' => RetB e (∀ x ∈ l, P x) ∧ Below w.heap.size w w' := by
  have Q := hide (goodList_typ b1 b2 P h.len h l w hl hs q)
  have HL := hide hs.1
  clear hs q hl
  go_enter Try.func147, Try.ntmps147
  go_wp2_with fail
  refine (unhide Q).mono ?_
  rintro e w1 ⟨⟨v, rfl, hv⟩, hb⟩
  have HV := hide hv
  clear hv Q
  go_wp2_with fail
  go_ret
  exact ⟨retB (b := v) ((unhide HV).trans ⟨fun h => h.2, fun h => ⟨by have := unhide HL; omega, h⟩⟩), hb⟩
set_option maxRecDepth 20000 in
set_option maxHeartbeats 4000000 in
theorem rising_str  (c : ByteArray → ByteArray → Int) (h : Hd) (l : List ByteArray) (w : World) (hl : l.length ≤ maxLen) (hs : SqS w 0 h l)
    (qq : ∀ x ∈ l, ∀ y ∈ l, ∀ w' : World, Below w.heap.size w w' → Calls Try.prog 76 #[.string x, .string y] w' fun e w'' => e = .returned (.int .i64 (c x y)) ∧ Below w'.heap.size w' w'') :
    Calls Try.prog 75 #[.slice h.a h.len h.cap, .func (.func 76) #[] #[]] w fun e w' => RetB e (∀ i (h : i + 1 < l.length), c l[i] l[i + 1] < 0) ∧ Below w.heap.size w w' := by
  have HS := hide hs
  have HQ := hide qq
  have HL := hide hs.1
  have hlm : h.len ≤ maxLen := by rw [hs.1]; exact hl
  unfold maxLen at hlm
  obtain ⟨a, len, cap⟩ := h
  simp only at hlm HL
  clear hs qq hl
  go_enter Try.func75, Try.ntmps75
  go_wp2
  go_loopw [5] (fun i w' => ∃ k : Nat, 1 ≤ k ∧ (k ≤ len ∨ k = 1) ∧ i = .int .i64 k ∧ Hid (Below w.heap.size w w') ∧ Hid (∀ i (h : i + 1 < l.length), i + 1 < k → c l[i] l[i + 1] < 0)) (fun i _ => len - (Go.RowKit.intOf i).toNat)
  case atStart => exact ⟨1, Nat.le_refl _, .inr rfl, rfl, hide (Below.refl _ _), hide (fun i _ h => absurd h (by omega))⟩
  case round =>
    obtain ⟨k, hk1, hk, rfl, hb, hris⟩ := hrel
    by_cases hlt : k < len
    · obtain ⟨j, rfl⟩ : ∃ j, k = j + 1 := ⟨k - 1, by omega⟩
      have hk' : j + 1 < l.length := by have := unhide HL; omega
      have hj : j < l.length := by omega
      obtain ⟨bb_, off, e0, hrow⟩ := ((unhide HS).keep (unhide hb)).sl.at hlt
      simp only at e0
      subst e0
      have p0 := hrow.c (j + 1) hk'
      have o0 := hrow.c j hj
      have zk := hrow.z
      have qc := hide (fun (q : Kept wr) => unhide HQ l[j] (List.getElem_mem hj) l[j + 1] (List.getElem_mem hk') q.w (bTr (unhide hb) q.h))
      have stepR : Hid (c l[j] l[j + 1] < 0 → ∀ i (h : i + 1 < l.length), i + 1 < j + 1 + 1 → c l[i] l[i + 1] < 0) := hide (fun g i hi h1 => by
        rcases Nat.lt_or_ge i j with h2 | h2
        · exact unhide hris i hi (by omega)
        · obtain rfl : i = j := by omega
          exact g)
      have noR : Hid (¬ c l[j] l[j + 1] < 0 → ¬ ∀ i (h : i + 1 < l.length), c l[i] l[i + 1] < 0) := hide (fun g h => g (h j hk'))
      clear hrow hris
      generalize c l[j] l[j + 1] = cc at qc stepR noR
      generalize l[j + 1] = P at p0 qc
      generalize l[j] = Q at o0 qc
      have ne : Nonempty (Kept wr) := ⟨⟨wr, Below.refl _ _⟩⟩
      have x0 := kept_cell zk p0
      have y0 := kept_cell zk o0
      have ej : IntKind.i64.wrap ((j : Int) + 1 - 1) = (j : Int) := by rw [IntKind.wrap_i64]; omega
      have i0 : (0 : Int) ≤ (j : Int) := by omega
      have i1 : (j : Int) < (len : Int) := by omega
      have i2 : (j : Int) + 1 < (len : Int) := by omega
      clear p0 o0 zk
      by_cases hc : cc < 0
      · have dc : decide (0 ≤ cc) = false := by simp; omega
        replace stepR := hide (unhide stepR hc)
        clear hc noR
        go_wp2_with fail
        refine wp_region_kept (by kernel_rfl) (by kernel_rfl) ?_
        repeat (first
          | go_big_quiet_step ((go_at_call 76; exact kept_call (unhide qc _)))
          | quiet_step ((go_at_call 76; exact kept_call (unhide qc _))))
        refine wpQuiet_nil ?_
        rintro _ ⟨q, rfl⟩
        go_wp2_with fail
        exact ⟨⟨j + 1 + 1, by omega, by omega, by go_num, hide (bTr (unhide hb) q.h), stepR⟩, by simp [Go.RowKit.intOf]; omega⟩
      · have dc : decide (0 ≤ cc) = true := by simp; omega
        replace noR := hide (unhide noR hc)
        clear hc stepR
        go_wp2_with fail
        refine wp_region_kept (by kernel_rfl) (by kernel_rfl) ?_
        repeat (first
          | go_big_quiet_step ((go_at_call 76; exact kept_call (unhide qc _)))
          | quiet_step ((go_at_call 76; exact kept_call (unhide qc _))))
        refine wpQuiet_nil ?_
        rintro _ ⟨q, rfl⟩
        go_wp2_with fail
        go_ret
        exact ⟨retB (b := false) ⟨fun h => (by cases h), fun h => absurd h (unhide noR)⟩, bTr (unhide hb) q.h⟩
    · have hR : Hid (∀ i (h : i + 1 < l.length), c l[i] l[i + 1] < 0) := hide (fun i h => unhide hris i h (by have := unhide HL; omega))
      clear hris
      go_wp2_with fail
      go_ret
      exact ⟨retB (b := true) ⟨fun _ => unhide hR, fun _ => rfl⟩, unhide hb⟩
set_option maxHeartbeats 1000000 in
theorem goodTypes_n (b1 b2 : Nat) (ns : List ByteArray) (h : Hd) (l : List ByteArray) (w : World) (hl : l.length ≤ maxLen) (ho : ∀ q ∈ l, ByteArray.size q ≤ maxLen) (hk : KT w b1 ns) (hs : SqS w 0 h l) :
    Calls Try.prog 123 #[.agg #[.map (some b1), .map (some b2)], .slice h.a h.len h.cap] w fun r w' => RetB r (GTypes ns l) ∧ Below w.heap.size w w' := by
  have B := hide (bAl (Below.refl w.heap.size w) (.cells #[.map (some b1), .map (some b2)] 102))
  have q1 := hide (every_typ b1 b2 (fun s => s ∈ ns) h l _ hl (hs.keep (unhide B)) (fun x hx w' hb => isType_n b1 b2 ns x w' (ho x hx) ((hk.keep (unhide B)).keep hb)))
  have q2 := hide (fun (w' : World) (hb : Below w.heap.size w w') => rising_str (fun x y => cmpT x.data.toList y.data.toList) h l w' hl (hs.keep hb) (fun x _ y _ w'' _ => (stringsCompare_any x y w'').mono fun _ _ ⟨a, b⟩ => ⟨a, by subst b; exact Below.refl _ _⟩))
  have D : Hid (GTypes ns l ↔ ((∀ s ∈ l, s ∈ ns) ∧ RisN' l)) := hide Iff.rfl
  generalize GTypes ns l = G at D ⊢
  clear hl ho hk hs
  go_enter Try.func123, Try.ntmps123
  go_wp2_with fail
  refine (unhide q1).mono ?_
  rintro r w1 ⟨⟨v1, rfl, hv1⟩, hb⟩
  replace B := hide (bTr (unhide B) hb)
  have H1 := hide hv1
  clear hb hv1 q1
  cases v1
  case false =>
    have no : Hid (¬ G) := hide (fun g => by have := (unhide H1).2 ((unhide D).1 g).1; cases this)
    clear D q2
    go_wp2_with fail
    go_ret
    exact ⟨retB (b := false) ⟨fun h => (by cases h), fun h => absurd h (unhide no)⟩, unhide B⟩
  replace H1 := hide ((unhide H1).1 rfl)
  go_wp2_with fail
  refine (unhide q2 _ (unhide B)).mono ?_
  rintro r w2 ⟨⟨v2, rfl, hv2⟩, hb⟩
  replace B := hide (bTr (unhide B) hb)
  have H2 := hide hv2
  clear hb hv2 q2
  go_wp2_with fail
  go_ret
  exact ⟨retB (b := v2) ((unhide H2).trans ⟨fun h => (unhide D).2 ⟨unhide H1, h⟩, fun h => ((unhide D).1 h).2⟩), unhide B⟩
end Go.Proofs.Ytkfbecelfkbkkaa.V
