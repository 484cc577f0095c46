/- impl.roleIndex: isRole, areRoles, goodApart. -/
import Derived.Test.YtfabfgokammmhaaOIa
import Derived.BigQuiet
namespace Go.Proofs.Ytfabfgokammmhaa.V
set_option linter.unusedSimpArgs false
set_option linter.unusedVariables false
open Go.RowKit Go.Maps

abbrev KStr (w : World) (b n : Nat) (m : ByteArray → Option Value) : Prop := KM Try.prog 9 Value.string w b n m
/-- A map of maps whose keys are the names. -/
def KT (w : World) (b : Nat) (ns : List ByteArray) : Prop := ∃ n M, KStr w b n M ∧ (∀ s, (M s).isSome = true ↔ s ∈ ns) ∧ ∀ s v, M s = some v → ∃ b', v = .map (some b')
theorem KT.keep {w w' : World} {b : Nat} {ns : List ByteArray} (h : KT w b ns) (hb : Below w.heap.size w w') : KT w' b ns := by
  obtain ⟨n, M, h1, h2⟩ := h
  exact ⟨n, M, h1.keepB hb h1.lt, h2⟩
theorem KT.lt {w : World} {b : Nat} {ns : List ByteArray} (h : KT w b ns) : b < w.heap.size := by
  obtain ⟨n, M, h1, _⟩ := h
  exact h1.lt
theorem KT.kept {w w' : World} {b : Nat} {ns : List ByteArray} {row : Option Nat} (h : KT w b ns) (hg : w.grownBy w' row) (hne : some b ≠ row) : KT w' b ns := by
  obtain ⟨n, M, h1, h2⟩ := h
  exact ⟨n, M, h1.kept hg hne, h2⟩
set_option maxHeartbeats 1000000 in
theorem isRole_n (b1 b2 : Nat) (hp hg : Hd) (ns : List ByteArray) (s : ByteArray) (w : World) (hs : s.size ≤ maxLen) (hk : KT w b2 ns) :
    Calls Try.prog 56 #[.agg #[.map (some b1), .map (some b2), .slice hp.a hp.len hp.cap, .slice hg.a hg.len hg.cap], .string s] w fun r w' => RetB r (s ∈ ns) ∧ Below w.heap.size w w' := by
  obtain ⟨n, M, hM, hiff, hsh⟩ := hk
  have zb := hM.lt
  have B := hide (bAl (Below.refl w.heap.size w) (.cells #[.map (some b1), .map (some b2), .slice hp.a hp.len hp.cap, .slice hg.a hg.len hg.cap] 54))
  have HM := hide (hM.keepB (unhide B) zb)
  have D := hide (hiff s)
  clear hiff hM
  cases hm : M s
  · have er : Hid ((M s).isSome = false) := hide (by rw [hm]; rfl)
    have ev : Hid ((M s).getD (.map none) = .map none) := hide (by rw [hm]; rfl)
    have no : Hid (¬ s ∈ ns) := hide (fun h => by have := (unhide D).2 h; rw [hm] at this; cases this)
    clear hm D hsh
    go_enter Try.func56, Try.ntmps56
    go_wp2_with (at_lookup; refine wpList_look_km _ kStr rfl _ _ _ rfl _ Try.underlying52 (zeroSet _) b2 n _ rfl (unhide HM) s rfl hs _ _ (unhide ev) (unhide er) ?_)
    go_ret
    exact ⟨retB (b := false) ⟨fun h => (by cases h), fun h => absurd h (unhide no)⟩, unhide B⟩
  · rename_i v
    obtain ⟨b', rfl⟩ := hsh s v hm
    have er : Hid ((M s).isSome = true) := hide (by rw [hm]; rfl)
    have ev : Hid ((M s).getD (.map none) = .map (some b')) := hide (by rw [hm]; rfl)
    have yes : Hid (s ∈ ns) := hide ((unhide D).1 (by rw [hm]; rfl))
    clear hm D hsh
    go_enter Try.func56, Try.ntmps56
    go_wp2_with (at_lookup; refine wpList_look_km _ kStr rfl _ _ _ rfl _ Try.underlying52 (zeroSet _) b2 n _ rfl (unhide HM) s rfl hs _ _ (unhide ev) (unhide er) ?_)
    go_ret
    exact ⟨retB (b := true) ⟨fun _ => unhide yes, fun _ => rfl⟩, unhide B⟩
set_option maxHeartbeats 1000000 in
theorem notGood_isr (b1 b2 : Nat) (hp hg : Hd) (P : ByteArray → Prop) (b : Nat) (x : ByteArray) (w : World) (hc : w.cell? ⟨b, 0, none⟩ = some (.func (.func 56) #[.agg #[.map (some b1), .map (some b2), .slice hp.a hp.len hp.cap, .slice hg.a hg.len hg.cap]] #[]))
    (q : ∀ w' : World, Below w.heap.size w w' → Calls Try.prog 56 #[.agg #[.map (some b1), .map (some b2), .slice hp.a hp.len hp.cap, .slice hg.a hg.len hg.cap], .string x] w' fun e w'' => RetB e (P x) ∧ Below w'.heap.size w' w'') :
    Calls Try.prog 74 #[.string x, .pointer (some ⟨b, 0, none⟩)] w fun e w' => RetB e (¬ P x) ∧ Below w.heap.size w w' := by
  have HB := hide (Below.refl w.heap.size w)
  have zb : b < w.heap.size := World.block_lt_of_cell? w ⟨b, 0, none⟩ hc
  have Q := hide (q _ (unhide HB))
  clear q
  go_enter Try.func74, Try.ntmps74
  go_wp2_with fail
  refine (unhide Q).mono ?_
  rintro e w1 ⟨⟨v, rfl, hv⟩, hb⟩
  have B1 := hide (bTr (unhide HB) hb)
  have HV := hide hv
  clear hb HB Q hc hv
  go_wp2_with fail
  go_ret
  refine ⟨retB (b := !v) ?_, unhide B1⟩
  rw [← unhide HV]; cases v <;> simp
set_option maxHeartbeats 1000000 in
theorem indexBad_isr (b1 b2 : Nat) (hp hg : Hd) (P : ByteArray → Prop) (b : Nat) (h : Hd) (l : List ByteArray) (w : World) (hl : l.length ≤ maxLen) (hs : SqS w 0 h l) (hc : w.cell? ⟨b, 0, none⟩ = some (.func (.func 56) #[.agg #[.map (some b1), .map (some b2), .slice hp.a hp.len hp.cap, .slice hg.a hg.len hg.cap]] #[]))
    (q : ∀ x ∈ l, ∀ w' : World, Below w.heap.size w w' → Calls Try.prog 56 #[.agg #[.map (some b1), .map (some b2), .slice hp.a hp.len hp.cap, .slice hg.a hg.len hg.cap], .string x] w' fun e w'' => RetB e (P x) ∧ Below w'.heap.size w' w'') :
    Calls Try.prog 79 #[.slice h.a h.len h.cap, .func (.func 74) #[] #[.pointer (some ⟨b, 0, none⟩)]] w fun e w' => (∃ v : Int, e = .returned (.int .i64 v) ∧ (0 ≤ v ↔ ¬ ∀ x ∈ l, P x)) ∧ Below w.heap.size w w' := by
  have HS := hide hs
  have zb : b < w.heap.size := World.block_lt_of_cell? w ⟨b, 0, none⟩ hc
  have HC := hide (fun (w' : World) (h : Below w.heap.size w w') => cellB (w' := w') h zb hc)
  have HQ := hide q
  have HL := hide hs.1
  have hlm : h.len ≤ maxLen := by rw [hs.1]; exact hl
  unfold maxLen at hlm
  obtain ⟨a, len, cap⟩ := h
  simp only at hlm HL
  clear hs hc q hl
  go_enter Try.func79, Try.ntmps79
  go_wp2_with fail
  go_loopw [8] (fun i w' => ∃ k : Nat, k ≤ len ∧ i = .int .i64 k ∧ Hid (Below w.heap.size w w') ∧ Hid (∀ i (h : i < l.length), i < k → P l[i])) (fun i _ => len - (Go.RowKit.intOf i).toNat)
  case atStart => exact ⟨0, Nat.zero_le _, rfl, hide (Below.refl _ _), hide (fun i _ h => absurd h (Nat.not_lt_zero _))⟩
  case round =>
    obtain ⟨k, hk, rfl, hb, hA⟩ := hrel
    by_cases hlt : k < len
    · have hk' : k < l.length := by have := unhide HL; omega
      obtain ⟨bb_, off, e0, hrow⟩ := ((unhide HS).keep (unhide hb)).sl.at hlt
      simp only at e0
      subst e0
      have c0 := hrow.c k hk'
      have zk := hrow.z
      have q := hide (notGood_isr b1 b2 hp hg P b l[k] wr (unhide HC _ (unhide hb)) (fun w' h => unhide HQ _ (List.getElem_mem hk') w' (bTr (unhide hb) h)))
      have eS : Hid (P l[k] → ∀ i (h : i < l.length), i < k + 1 → P l[i]) := hide (fun g i hi h1 => by
        rcases Nat.lt_or_ge i k with h2 | h2
        · exact unhide hA i hi h2
        · obtain rfl : i = k := by omega
          exact g)
      have eN : Hid (¬ P l[k] → ¬ ∀ x ∈ l, P x) := hide (fun g h => g (h _ (List.getElem_mem hk')))
      clear hrow
      generalize l[k] = A at *
      go_wp2_with fail
      refine (unhide q).mono ?_
      rintro e w1 ⟨⟨v, rfl, hv⟩, hb1⟩
      have B1 := hide (bTr (unhide hb) hb1)
      have HV := hide hv
      clear hb1 q hv c0
      cases v
      · have S := hide (unhide eS (Classical.byContradiction fun h => by have := (unhide HV).2 h; cases this))
        clear eS eN HV
        go_wp2_with fail
        exact ⟨⟨k + 1, by omega, by go_num, B1, S⟩, by simp [Go.RowKit.intOf]; omega⟩
      · have N := hide (unhide eN ((unhide HV).1 rfl))
        clear eS eN HV
        go_wp2_with fail
        go_ret
        exact ⟨⟨_, rfl, fun _ => unhide N, fun _ => by omega⟩, unhide B1⟩
    · have S : Hid (∀ x ∈ l, P x) := hide (fun x hx => by
        obtain ⟨i, hi, rfl⟩ := List.getElem_of_mem hx
        exact unhide hA i hi (by have := unhide HL; omega))
      go_wp2_with fail
      go_ret
      exact ⟨⟨_, rfl, fun h => absurd h (by decide), fun h => absurd (unhide S) h⟩, unhide hb⟩
set_option maxHeartbeats 1000000 in
theorem goodList_isr (b1 b2 : Nat) (hp hg : Hd) (P : ByteArray → Prop) (most : Int) (h : Hd) (l : List ByteArray) (w : World) (hl : l.length ≤ maxLen) (hs : SqS w 0 h l)
    (q : ∀ x ∈ l, ∀ w' : World, Below w.heap.size w w' → Calls Try.prog 56 #[.agg #[.map (some b1), .map (some b2), .slice hp.a hp.len hp.cap, .slice hg.a hg.len hg.cap], .string x] w' fun e w'' => RetB e (P x) ∧ Below w'.heap.size w' w'') :
    Calls Try.prog 67 #[.slice h.a h.len h.cap, .int .i64 most, .func (.func 56) #[.agg #[.map (some b1), .map (some b2), .slice hp.a hp.len hp.cap, .slice hg.a hg.len hg.cap]] #[]] w fun e w' => RetB e ((l.length : Int) ≤ most ∧ ∀ x ∈ l, P x) ∧ Below w.heap.size w w' := by
  have HS := hide hs
  have HQ := hide q
  have HL := hide hs.1
  have HM := hide hl
  clear hs q hl
  by_cases h200 : (h.len : Int) ≤ most
  · obtain ⟨W, hW⟩ : ∃ W, W = w.alloc (.cells #[.func (.func 56) #[.agg #[.map (some b1), .map (some b2), .slice hp.a hp.len hp.cap, .slice hg.a hg.len hg.cap]] #[]] 42) := ⟨_, rfl⟩
    have R := show RowIs W w.heap.size #[.func (.func 56) #[.agg #[.map (some b1), .map (some b2), .slice hp.a hp.len hp.cap, .slice hg.a hg.len hg.cap]] #[]] 42 by rw [hW]; exact RowIs.new _ _ _
    have B := hide (show Below w.heap.size w W by rw [hW]; exact bAl (Below.refl _ _) _)
    have HW := hide hW.symm
    clear hW
    have q := hide (fun hc => indexBad_isr b1 b2 hp hg P w.heap.size h l W (unhide HM) ((unhide HS).keep (unhide B)) hc (fun x hx w' h => unhide HQ x hx w' (bTr (unhide B) h)))
    have q2 : Hid (Calls Try.prog 73 #[.slice h.a h.len h.cap, .func (.func 74) #[] #[.pointer (some ⟨w.heap.size, 0, none⟩)]] W fun e w' => (∃ v : Bool, e = .returned (.bool v) ∧ (v = true ↔ ¬ ∀ x ∈ l, P x)) ∧ Below W.heap.size W w') := hide (by
      have q := hide (unhide q (R.at (o := 0) rfl))
      go_enter Try.func73, Try.ntmps73
      go_wp2_with fail
      refine (unhide q).mono ?_
      rintro e w1 ⟨⟨v, rfl, hv⟩, hb⟩
      have HV := hide hv
      clear hv
      go_wp2_with fail
      go_ret
      exact ⟨⟨decide (0 ≤ v), rfl, by rw [decide_eq_true_iff]; exact unhide HV⟩, hb⟩)
    have hst := @run_store Try.prog
    clear q R
    go_enter Try.func67, Try.ntmps67
    go_wp2_with fail
    rw [unhide HW]
    refine (unhide q2).mono ?_
    rintro e w1 ⟨⟨v, rfl, hv⟩, hb⟩
    have HV := hide hv
    have B1 := hide (bTr (unhide B) hb)
    clear hv hb q2 hst HW B
    go_wp2_with fail
    go_ret
    have hle := unhide HL
    refine ⟨retB (b := !v) ⟨fun h => ?_, fun h => ?_⟩, unhide B1⟩
    · cases v
      · refine ⟨by omega, ?_⟩
        have := unhide HV
        exact Classical.byContradiction fun hn => by have := this.2 hn; cases this
      · cases h
    · cases v
      · rfl
      · exact absurd h.2 ((unhide HV).1 rfl)
  · have d : decide ((h.len : Int) ≤ most) = false := by simpa using h200
    have B := hide (bAl (Below.refl w.heap.size w) (.cells #[.func (.func 56) #[.agg #[.map (some b1), .map (some b2), .slice hp.a hp.len hp.cap, .slice hg.a hg.len hg.cap]] #[]] 42))
    have hst := @run_store Try.prog
    go_enter Try.func67, Try.ntmps67
    go_wp2_with fail
    go_ret
    have hle := unhide HL
    exact ⟨retB (b := false) ⟨fun h => (by cases h), fun h => absurd h.1 (by omega)⟩, unhide B⟩
set_option maxHeartbeats 400000 in
theorem every_isr (b1 b2 : Nat) (hp hg : Hd) (P : ByteArray → Prop) (h : Hd) (l : List ByteArray) (w : World) (hl : l.length ≤ maxLen) (hs : SqS w 0 h l)
    (q : ∀ x ∈ l, ∀ w' : World, Below w.heap.size w w' → Calls Try.prog 56 #[.agg #[.map (some b1), .map (some b2), .slice hp.a hp.len hp.cap, .slice hg.a hg.len hg.cap], .string x] w' fun e w'' => RetB e (P x) ∧ Below w'.heap.size w' w'') :
    Calls Try.prog 55 #[.slice h.a h.len h.cap, .func (.func 56) #[.agg #[.map (some b1), .map (some b2), .slice hp.a hp.len hp.cap, .slice hg.a hg.len hg.cap]] #[]] w fun e w' => RetB e (∀ x ∈ l, P x) ∧ Below w.heap.size w w' := by
  have Q := hide (goodList_isr b1 b2 hp hg P h.len h l w hl hs q)
  have HL := hide hs.1
  clear hs q hl
  go_enter Try.func55, Try.ntmps55
  go_wp2_with fail
  refine (unhide Q).mono ?_
  rintro e w1 ⟨⟨v, rfl, hv⟩, hb⟩
  have HV := hide hv
  clear hv Q
  go_wp2_with fail
  go_ret
  exact ⟨retB (b := v) ((unhide HV).trans ⟨fun h => h.2, fun h => ⟨by have := unhide HL; omega, h⟩⟩), hb⟩
set_option maxHeartbeats 1000000 in
theorem areRoles_n (b1 b2 : Nat) (hp hg : Hd) (ns : List ByteArray) (h : Hd) (l : List ByteArray) (w : World) (hl : l.length ≤ maxLen) (ho : ∀ q ∈ l, ByteArray.size q ≤ maxLen) (hk : KT w b2 ns) (hs : SqS w 0 h l) :
    Calls Try.prog 40 #[.agg #[.map (some b1), .map (some b2), .slice hp.a hp.len hp.cap, .slice hg.a hg.len hg.cap], .slice h.a h.len h.cap] w fun r w' => RetB r (AllR ns l) ∧ Below w.heap.size w w' := by
  have B := hide (bAl (Below.refl w.heap.size w) (.cells #[.map (some b1), .map (some b2), .slice hp.a hp.len hp.cap, .slice hg.a hg.len hg.cap] 54))
  have q1 := hide (every_isr b1 b2 hp hg (fun s => s ∈ ns) h l _ hl (hs.keep (unhide B)) (fun x hx w' hb => isRole_n b1 b2 hp hg ns x w' (ho x hx) ((hk.keep (unhide B)).keep hb)))
  have q2 := hide (fun (w' : World) (hb : Below w.heap.size w w') => risStr_n h l w' hl (hs.keep hb))
  have D : Hid (AllR ns l ↔ ((∀ s ∈ l, s ∈ ns) ∧ RisT l)) := hide Iff.rfl
  generalize AllR ns l = G at D ⊢
  clear hl ho hk hs
  go_enter Try.func40, Try.ntmps40
  go_wp2_with fail
  refine (unhide q1).mono ?_
  rintro r w1 ⟨⟨v1, rfl, hv1⟩, hb⟩
  replace B := hide (bTr (unhide B) hb)
  have H1 := hide hv1
  clear hb hv1 q1
  cases v1
  case false =>
    have no : Hid (¬ G) := hide (fun g => by have := (unhide H1).2 ((unhide D).1 g).1; cases this)
    clear D q2
    go_wp2_with fail
    go_ret
    exact ⟨retB (b := false) ⟨fun h => (by cases h), fun h => absurd h (unhide no)⟩, unhide B⟩
  replace H1 := hide ((unhide H1).1 rfl)
  go_wp2_with fail
  refine (unhide q2 _ (unhide B)).mono ?_
  rintro r w2 ⟨⟨v2, rfl, hv2⟩, hb⟩
  replace B := hide (bTr (unhide B) hb)
  have H2 := hide hv2
  clear hb hv2 q2
  go_wp2_with fail
  go_ret
  exact ⟨retB (b := v2) ((unhide H2).trans ⟨fun h => (unhide D).2 ⟨unhide H1, h⟩, fun h => ((unhide D).1 h).2⟩), unhide B⟩
set_option maxHeartbeats 1000000 in
theorem goodApart_n (b1 b2 : Nat) (hp hg : Hd) (ns : List ByteArray) (e : ApartE) (w : World) (hn : ApartN e.t) (hk : KT w b2 ns) (hm : ApartM w 0 e) :
    Calls Try.prog 44 #[.agg #[.map (some b1), .map (some b2), .slice hp.a hp.len hp.cap, .slice hg.a hg.len hg.cap], .agg #[.slice e.h0.a e.h0.len e.h0.cap, .int .i64 e.t.f1, .bool e.t.f2]] w fun r w' => RetB r (GAp ns e.t) ∧ Below w.heap.size w w' := by
  obtain ⟨W, hW⟩ : ∃ W, W = (w.alloc (.cells #[.map (some b1), .map (some b2), .slice hp.a hp.len hp.cap, .slice hg.a hg.len hg.cap] 54)).alloc (.cells #[.slice e.h0.a e.h0.len e.h0.cap, .int .i64 e.t.f1, .bool e.t.f2] 48) := ⟨_, rfl⟩
  have B := hide (show Below w.heap.size w W by rw [hW]; exact bAl (bAl (Below.refl w.heap.size w) _) _)
  have R := hide (show RowIs W (w.heap.size + 1) #[.slice e.h0.a e.h0.len e.h0.cap, .int .i64 e.t.f1, .bool e.t.f2] 48 by rw [hW]; have := RowIs.new (w.alloc (.cells #[.map (some b1), .map (some b2), .slice hp.a hp.len hp.cap, .slice hg.a hg.len hg.cap] 54)) #[.slice e.h0.a e.h0.len e.h0.cap, .int .i64 e.t.f1, .bool e.t.f2] 48; simpa using this)
  have q1 := hide (areRoles_n b1 b2 hp hg ns e.h0 e.t.f0 W hn.l0 hn.o0 (hk.keep (unhide B)) (hm.m0.keep (unhide B)))
  have EL := hide hm.m0.1
  have hlm := hn.l0
  unfold maxLen at hlm
  have zl : e.h0.len ≤ 9223372036854775807 := by have := unhide EL; omega
  have D : Hid (GAp ns e.t ↔ (AllR ns e.t.f0 ∧ 1 ≤ e.t.f1 ∧ e.t.f1 < e.t.f0.length)) := hide Iff.rfl
  generalize GAp ns e.t = G at D ⊢
  generalize AllR ns e.t.f0 = AA at D q1
  have HW := hide hW.symm
  clear hn hm hk hW hlm
  go_enter Try.func44, Try.ntmps44
  go_wp2_with fail
  rw [unhide HW]
  clear HW
  refine (unhide q1).mono ?_
  rintro r w1 ⟨⟨v1, rfl, hv1⟩, hb⟩
  replace B := hide (bTr (unhide B) hb)
  replace R := hide ((unhide R).keep hb)
  have H1 := hide hv1
  clear hb hv1 q1
  cases v1
  case false =>
    have no : Hid (¬ G) := hide (fun g => by have := (unhide H1).2 ((unhide D).1 g).1; cases this)
    clear D R H1
    go_wp2_with fail
    go_ret
    exact ⟨retB (b := false) ⟨fun h => (by cases h), fun h => absurd h (unhide no)⟩, unhide B⟩
  have c0 := (unhide R).at (o := 0) (v := .slice e.h0.a e.h0.len e.h0.cap) rfl
  have c1 := (unhide R).at (o := 1) (v := .int .i64 e.t.f1) rfl
  by_cases g1 : 1 ≤ e.t.f1
  case neg =>
    have no : Hid (¬ G) := hide (fun g => g1 ((unhide D).1 g).2.1)
    have d1 : decide (1 ≤ e.t.f1) = false := by simpa using g1
    clear D R H1 g1
    go_wp2_with fail
    go_ret
    exact ⟨retB (b := false) ⟨fun h => (by cases h), fun h => absurd h (unhide no)⟩, unhide B⟩
  have d1 : decide (1 ≤ e.t.f1) = true := decide_eq_true g1
  have Y : Hid (G ↔ decide (e.t.f1 < (e.h0.len : Int)) = true) := hide ((unhide D).trans ⟨fun h => decide_eq_true (by have := h.2.2; have := unhide EL; omega), fun h => ⟨(unhide H1).1 rfl, g1, by have := of_decide_eq_true h; have := unhide EL; omega⟩⟩)
  generalize hd : decide (e.t.f1 < (e.h0.len : Int)) = d2 at Y
  clear D R H1 g1
  go_wp2_with fail
  go_ret
  exact ⟨retB (b := d2) (unhide Y).symm, unhide B⟩
end Go.Proofs.Ytfabfgokammmhaa.V
