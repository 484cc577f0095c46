/- ZFd, ZTg, one behind the other. -/
import Derived.Test.YtpfekkhnjaopdaaGreatJ18
import Derived.Test.YtpfekkhnjaopdaaGreatJ14
import Derived.Test.YtpfekkhnjaopdaaGreatJ22
import Derived.Test.YtpfekkhnjaopdaaGreatJ9
import Derived.Test.YtpfekkhnjaopdaaGreatJ10
/- Fields: names that rise, each with a value that is no record; both sides, and requests. -/
namespace Go.Proofs.YtpfekkhnjaopdaaGreat.V
set_option linter.unusedSimpArgs false
open Go.RowKit

def FldV (v : ValT) : Prop := v.k ≠ 3 ∧ GoodVal v
/-- What is asked of the i-th field. -/
def FldAt (ns : List ByteArray) (vs : List ValT) (i : Nat) : Prop := (∀ h : i < ns.length, goodName ns[i] = true ∧ (0 < i → cmpT ns[i - 1].data.toList ns[i].data.toList < 0)) ∧ ∀ h : i < vs.length, FldV vs[i]
def Fields (ns : List ByteArray) (vs : List ValT) : Prop := vs.length = ns.length ∧ ns.length ≤ 20 ∧ (∀ s ∈ ns, goodName s = true) ∧ RisN ns ns.length ∧ ∀ v ∈ vs, FldV v
theorem fields_of {ns : List ByteArray} {vs : List ValT} (h1 : vs.length = ns.length) (h2 : ns.length ≤ 20) (h : ∀ i, i < ns.length → FldAt ns vs i) : Fields ns vs :=
  ⟨h1, h2, fun s hs => by obtain ⟨i, hi, rfl⟩ := List.getElem_of_mem hs; exact ((h i hi).1 hi).1, fun i hi h0 _ => ((h i hi).1 hi).2 h0, fun v hv => by obtain ⟨i, hi, rfl⟩ := List.getElem_of_mem hv; exact (h i (by omega)).2 hi⟩
theorem Fields.at {ns : List ByteArray} {vs : List ValT} (h : Fields ns vs) (i : Nat) : FldAt ns vs i :=
  ⟨fun hi => ⟨h.2.2.1 _ (List.getElem_mem hi), fun h0 => h.2.2.2.1 i hi h0 hi⟩, fun hi => h.2.2.2.2 _ (List.getElem_mem hi)⟩
theorem fldAt_iff {ns : List ByteArray} {l : List ValueE} {k : Nat} (h1 : k < ns.length) (h2 : k < l.length) : FldAt ns (l.map (·.t)) k ↔ (goodName ns[k] = true ∧ (0 < k → cmpT ns[k - 1].data.toList ns[k].data.toList < 0) ∧ FldV l[k].t) := by
  unfold FldAt
  constructor
  · intro h
    have := h.2 (by simpa using h2)
    exact ⟨(h.1 h1).1, (h.1 h1).2, by simpa using this⟩
  · intro h
    exact ⟨fun _ => ⟨h.1, h.2.1⟩, fun _ => by simpa using h.2.2⟩
theorem ValueN.ok {v : ValT} (h : ValueN v) : v.Ok := ⟨h.o1, h.o2, h.o3⟩
set_option maxHeartbeats 1000000 in
theorem isFieldValue_any (e : ValueE) (w : World) (hn : ValueN e.t) (hm : ValueM w 0 e) :
    Calls Tryz.prog 122 #[.agg #[.int .i64 e.t.k, .int .i64 e.t.a.x, .int .i64 e.t.a.n, .string e.t.a.t, .string e.t.a.y, .slice e.h2.a e.h2.len e.h2.cap, .slice e.h3.a e.h3.len e.h3.cap]] w fun r w' => RetB r (FldV e.t) ∧ Below w.heap.size w w' := by
  have q := hide (fun w (hm : ValueM w 0 e) => iGoodValue_any e.t hn.ok e.h2.a e.h3.a e.h2.len e.h2.cap e.h3.len e.h3.cap w (by rw [hm.m2.1]; exact hn.l2) hm.m2.sl hm.m3.sl)
  have B := hide (bAl (Below.refl w.heap.size w) (.cells #[.int .i64 e.t.k, .int .i64 e.t.a.x, .int .i64 e.t.a.n, .string e.t.a.t, .string e.t.a.y, .slice e.h2.a e.h2.len e.h2.cap, .slice e.h3.a e.h3.len e.h3.cap] 103))
  have HM := hide hm
  clear hm hn
  by_cases h3 : e.t.k = 3
  · have d : (e.t.k != 3) = false := by simp [h3]
    have no : Hid (¬ FldV e.t) := hide (fun h => h.1 h3)
    clear h3 q HM
    go_enter Tryz.func122, Tryz.ntmps122
    go_wp2_with fail
    go_ret
    exact ⟨retB (b := false) ⟨fun h => (by cases h), fun h => absurd h (unhide no)⟩, unhide B⟩
  · have d : (e.t.k != 3) = true := by simpa using h3
    have yes : Hid (FldV e.t ↔ GoodVal e.t) := hide ⟨fun h => h.2, fun h => ⟨h3, h⟩⟩
    clear h3
    go_enter Tryz.func122, Tryz.ntmps122
    go_wp2_with fail
    refine (unhide q _ ((unhide HM).keep (unhide B))).mono ?_
    rintro r w1 ⟨⟨v, rfl, hv⟩, hb⟩
    have HV := hide hv
    replace B := hide (bTr (unhide B) hb)
    clear hb hv
    go_wp2_with fail
    go_ret
    exact ⟨retB (b := v) ((unhide HV).trans (unhide yes).symm), unhide B⟩
set_option maxHeartbeats 1000000 in
theorem notGood_fv  (P : ValueE → Prop) (b : Nat) (x : ValueE) (w : World) (hc : w.cell? ⟨b, 0, none⟩ = some (.func (.func 122) #[] #[]))
    (q : ∀ w' : World, Below w.heap.size w w' → Calls Tryz.prog 122 #[.agg #[.int .i64 x.t.k, .int .i64 x.t.a.x, .int .i64 x.t.a.n, .string x.t.a.t, .string x.t.a.y, .slice x.h2.a x.h2.len x.h2.cap, .slice x.h3.a x.h3.len x.h3.cap]] w' fun e w'' => RetB e (P x) ∧ Below w'.heap.size w' w'') :
    Calls Tryz.prog 140 #[.agg #[.int .i64 x.t.k, .int .i64 x.t.a.x, .int .i64 x.t.a.n, .string x.t.a.t, .string x.t.a.y, .slice x.h2.a x.h2.len x.h2.cap, .slice x.h3.a x.h3.len x.h3.cap], .pointer (some ⟨b, 0, none⟩)] w fun e w' => RetB e (¬ P x) ∧ Below w.heap.size w w' := by
  have HB := hide (bAl (Below.refl w.heap.size w) (.cells #[.int .i64 x.t.k, .int .i64 x.t.a.x, .int .i64 x.t.a.n, .string x.t.a.t, .string x.t.a.y, .slice x.h2.a x.h2.len x.h2.cap, .slice x.h3.a x.h3.len x.h3.cap] 103))
  have zb : b < w.heap.size := World.block_lt_of_cell? w ⟨b, 0, none⟩ hc
  have Q := hide (q _ (unhide HB))
  clear q
  go_enter Tryz.func140, Tryz.ntmps140
  go_wp2_with fail
  refine (unhide Q).mono ?_
  rintro e w1 ⟨⟨v, rfl, hv⟩, hb⟩
  have B1 := hide (bTr (unhide HB) hb)
  have HV := hide hv
  clear hb HB Q hc hv
  go_wp2_with fail
  go_ret
  refine ⟨retB (b := !v) ?_, unhide B1⟩
  rw [← unhide HV]; cases v <;> simp
set_option maxHeartbeats 1000000 in
theorem indexBad_fv  (P : ValueE → Prop) (b : Nat) (h : Hd) (l : List ValueE) (w : World) (hl : l.length ≤ maxLen) (hs : SqValueE w 0 h l) (hc : w.cell? ⟨b, 0, none⟩ = some (.func (.func 122) #[] #[]))
    (q : ∀ x ∈ l, ∀ w' : World, Below w.heap.size w w' → Calls Tryz.prog 122 #[.agg #[.int .i64 x.t.k, .int .i64 x.t.a.x, .int .i64 x.t.a.n, .string x.t.a.t, .string x.t.a.y, .slice x.h2.a x.h2.len x.h2.cap, .slice x.h3.a x.h3.len x.h3.cap]] w' fun e w'' => RetB e (P x) ∧ Below w'.heap.size w' w'') :
    Calls Tryz.prog 143 #[.slice h.a h.len h.cap, .func (.func 140) #[] #[.pointer (some ⟨b, 0, none⟩)]] w fun e w' => (∃ v : Int, e = .returned (.int .i64 v) ∧ (0 ≤ v ↔ ¬ ∀ x ∈ l, P x)) ∧ Below w.heap.size w w' := by
  have HS := hide hs
  have zb : b < w.heap.size := World.block_lt_of_cell? w ⟨b, 0, none⟩ hc
  have HC := hide (fun (w' : World) (h : Below w.heap.size w w') => cellB (w' := w') h zb hc)
  have HQ := hide q
  have HL := hide hs.1
  have hlm : h.len ≤ maxLen := by rw [hs.1]; exact hl
  unfold maxLen at hlm
  obtain ⟨a, len, cap⟩ := h
  simp only at hlm HL
  clear hs hc q hl
  go_enter Tryz.func143, Tryz.ntmps143
  go_wp2_with fail
  go_loopw [8] (fun i w' => ∃ k : Nat, k ≤ len ∧ i = .int .i64 k ∧ Hid (Below w.heap.size w w') ∧ Hid (∀ i (h : i < l.length), i < k → P l[i])) (fun i _ => len - (Go.RowKit.intOf i).toNat)
  case atStart => exact ⟨0, Nat.zero_le _, rfl, hide (Below.refl _ _), hide (fun i _ h => absurd h (Nat.not_lt_zero _))⟩
  case round =>
    obtain ⟨k, hk, rfl, hb, hA⟩ := hrel
    by_cases hlt : k < len
    · have hk' : k < l.length := by have := unhide HL; omega
      obtain ⟨b1, off, e0, hrow⟩ := ((unhide HS).keep (unhide hb)).at hlt
      simp only at e0
      subst e0
      have c0 := hrow.c0 k hk'
      have c1 := hrow.c1 k hk'
      have c2 := hrow.c2 k hk'
      have c3 := hrow.c3 k hk'
      have c4 := hrow.c4 k hk'
      have c5 := hrow.c5 k hk'
      have c6 := hrow.c6 k hk'
      have zk := hrow.z
      have q := hide (notGood_fv  P b l[k] wr (unhide HC _ (unhide hb)) (fun w' h => unhide HQ _ (List.getElem_mem hk') w' (bTr (unhide hb) h)))
      have eS : Hid (P l[k] → ∀ i (h : i < l.length), i < k + 1 → P l[i]) := hide (fun g i hi h1 => by
        rcases Nat.lt_or_ge i k with h2 | h2
        · exact unhide hA i hi h2
        · obtain rfl : i = k := by omega
          exact g)
      have eN : Hid (¬ P l[k] → ¬ ∀ x ∈ l, P x) := hide (fun g h => g (h _ (List.getElem_mem hk')))
      clear hrow
      generalize l[k] = A at *
      go_wp2_with fail
      refine (unhide q).mono ?_
      rintro e w1 ⟨⟨v, rfl, hv⟩, hb1⟩
      have B1 := hide (bTr (unhide hb) hb1)
      have HV := hide hv
      clear hb1 q hv c0 c1 c2 c3 c4 c5 c6
      cases v
      · have S := hide (unhide eS (Classical.byContradiction fun h => by have := (unhide HV).2 h; cases this))
        clear eS eN HV
        go_wp2_with fail
        exact ⟨⟨k + 1, by omega, by go_num, B1, S⟩, by simp [Go.RowKit.intOf]; omega⟩
      · have N := hide (unhide eN ((unhide HV).1 rfl))
        clear eS eN HV
        go_wp2_with fail
        go_ret
        exact ⟨⟨_, rfl, fun _ => unhide N, fun _ => by omega⟩, unhide B1⟩
    · have S : Hid (∀ x ∈ l, P x) := hide (fun x hx => by
        obtain ⟨i, hi, rfl⟩ := List.getElem_of_mem hx
        exact unhide hA i hi (by have := unhide HL; omega))
      go_wp2_with fail
      go_ret
      exact ⟨⟨_, rfl, fun h => absurd h (by decide), fun h => absurd (unhide S) h⟩, unhide hb⟩
set_option maxHeartbeats 1000000 in
theorem goodList_fv  (P : ValueE → Prop) (most : Int) (h : Hd) (l : List ValueE) (w : World) (hl : l.length ≤ maxLen) (hs : SqValueE w 0 h l)
    (q : ∀ x ∈ l, ∀ w' : World, Below w.heap.size w w' → Calls Tryz.prog 122 #[.agg #[.int .i64 x.t.k, .int .i64 x.t.a.x, .int .i64 x.t.a.n, .string x.t.a.t, .string x.t.a.y, .slice x.h2.a x.h2.len x.h2.cap, .slice x.h3.a x.h3.len x.h3.cap]] w' fun e w'' => RetB e (P x) ∧ Below w'.heap.size w' w'') :
    Calls Tryz.prog 134 #[.slice h.a h.len h.cap, .int .i64 most, .func (.func 122) #[] #[]] w fun e w' => RetB e ((l.length : Int) ≤ most ∧ ∀ x ∈ l, P x) ∧ Below w.heap.size w w' := by
  have HS := hide hs
  have HQ := hide q
  have HL := hide hs.1
  have HM := hide hl
  clear hs q hl
  by_cases h200 : (h.len : Int) ≤ most
  · obtain ⟨W, hW⟩ : ∃ W, W = w.alloc (.cells #[.func (.func 122) #[] #[]] 108) := ⟨_, rfl⟩
    have R := show RowIs W w.heap.size #[.func (.func 122) #[] #[]] 108 by rw [hW]; exact RowIs.new _ _ _
    have B := hide (show Below w.heap.size w W by rw [hW]; exact bAl (Below.refl _ _) _)
    have HW := hide hW.symm
    clear hW
    have q := hide (fun hc => indexBad_fv  P w.heap.size h l W (unhide HM) ((unhide HS).keep (unhide B)) hc (fun x hx w' h => unhide HQ x hx w' (bTr (unhide B) h)))
    have q2 : Hid (Calls Tryz.prog 139 #[.slice h.a h.len h.cap, .func (.func 140) #[] #[.pointer (some ⟨w.heap.size, 0, none⟩)]] W fun e w' => (∃ v : Bool, e = .returned (.bool v) ∧ (v = true ↔ ¬ ∀ x ∈ l, P x)) ∧ Below W.heap.size W w') := hide (by
      have q := hide (unhide q (R.at (o := 0) rfl))
      go_enter Tryz.func139, Tryz.ntmps139
      go_wp2_with fail
      refine (unhide q).mono ?_
      rintro e w1 ⟨⟨v, rfl, hv⟩, hb⟩
      have HV := hide hv
      clear hv
      go_wp2_with fail
      go_ret
      exact ⟨⟨decide (0 ≤ v), rfl, by rw [decide_eq_true_iff]; exact unhide HV⟩, hb⟩)
    have hst := @run_store Tryz.prog
    clear q R
    go_enter Tryz.func134, Tryz.ntmps134
    go_wp2_with fail
    rw [unhide HW]
    refine (unhide q2).mono ?_
    rintro e w1 ⟨⟨v, rfl, hv⟩, hb⟩
    have HV := hide hv
    have B1 := hide (bTr (unhide B) hb)
    clear hv hb q2 hst HW B
    go_wp2_with fail
    go_ret
    have hle := unhide HL
    refine ⟨retB (b := !v) ⟨fun h => ?_, fun h => ?_⟩, unhide B1⟩
    · cases v
      · refine ⟨by omega, ?_⟩
        have := unhide HV
        exact Classical.byContradiction fun hn => by have := this.2 hn; cases this
      · cases h
    · cases v
      · rfl
      · exact absurd h.2 ((unhide HV).1 rfl)
  · have d : decide ((h.len : Int) ≤ most) = false := by simpa using h200
    have B := hide (bAl (Below.refl w.heap.size w) (.cells #[.func (.func 122) #[] #[]] 108))
    have hst := @run_store Tryz.prog
    go_enter Tryz.func134, Tryz.ntmps134
    go_wp2_with fail
    go_ret
    have hle := unhide HL
    exact ⟨retB (b := false) ⟨fun h => (by cases h), fun h => absurd h.1 (by omega)⟩, unhide B⟩
set_option maxHeartbeats 400000 in
theorem every_fv  (P : ValueE → Prop) (h : Hd) (l : List ValueE) (w : World) (hl : l.length ≤ maxLen) (hs : SqValueE w 0 h l)
    (q : ∀ x ∈ l, ∀ w' : World, Below w.heap.size w w' → Calls Tryz.prog 122 #[.agg #[.int .i64 x.t.k, .int .i64 x.t.a.x, .int .i64 x.t.a.n, .string x.t.a.t, .string x.t.a.y, .slice x.h2.a x.h2.len x.h2.cap, .slice x.h3.a x.h3.len x.h3.cap]] w' fun e w'' => RetB e (P x) ∧ Below w'.heap.size w' w'') :
    Calls Tryz.prog 121 #[.slice h.a h.len h.cap, .func (.func 122) #[] #[]] w fun e w' => RetB e (∀ x ∈ l, P x) ∧ Below w.heap.size w w' := by
  have Q := hide (goodList_fv  P h.len h l w hl hs q)
  have HL := hide hs.1
  clear hs q hl
  go_enter Tryz.func121, Tryz.ntmps121
  go_wp2_with fail
  refine (unhide Q).mono ?_
  rintro e w1 ⟨⟨v, rfl, hv⟩, hb⟩
  have HV := hide hv
  clear hv Q
  go_wp2_with fail
  go_ret
  exact ⟨retB (b := v) ((unhide HV).trans ⟨fun h => h.2, fun h => ⟨by have := unhide HL; omega, h⟩⟩), hb⟩
set_option maxHeartbeats 2000000 in
theorem fieldsGood_any (hn hv : Hd) (ns : List ByteArray) (vs : List ValT) (w : World) (on : ∀ q ∈ ns, ByteArray.size q ≤ maxLen) (ln : ns.length ≤ maxLen) (ov : ∀ q ∈ vs, ValueN q) (lv : vs.length ≤ maxLen) (sn : SqS w 0 hn ns) (sv : SqValue w 0 hv vs) :
    Calls Tryz.prog 101 #[.agg #[.slice hn.a hn.len hn.cap, .slice hv.a hv.len hv.cap]] w fun r w' => RetB r (Fields ns vs) ∧ Below w.heap.size w w' := by
  have q1 := hide (fun w hs => goodList_name (fun s => goodName s = true) 20 hn ns w ln hs (fun x hx w' _ => (iGoodName_any x (on x hx) w').mono fun _ _ ⟨a, b⟩ => ⟨⟨_, a, Iff.rfl⟩, b⟩))
  have q2 := hide (fun w hl hs => risingN_any hn.a hn.len hn.cap ns w hl hs)
  have q3 : Hid (∀ w, SqValue w 0 hv vs → Calls Tryz.prog 121 #[.slice hv.a hv.len hv.cap, .func (.func 122) #[] #[]] w fun e w' => RetB e (∀ v ∈ vs, FldV v) ∧ Below w.heap.size w w') := hide (fun w hs => by
    obtain ⟨l, rfl, hs⟩ := hs
    refine (every_fv (fun e => FldV e.t) hv l w (by simpa using lv) hs (fun x hx w' hb => isFieldValue_any x w' (ov _ (List.mem_map_of_mem hx)) ((hs.2.2 x hx).keep hb))).mono fun r w' ⟨⟨b, e, h⟩, k⟩ => ⟨⟨b, e, h.trans ?_⟩, k⟩
    exact ⟨fun h v hv => by obtain ⟨e, he, rfl⟩ := List.mem_map.1 hv; exact h e he, fun h e he => h _ (List.mem_map_of_mem he)⟩)
  have R := hide (RowIs.new w #[.slice hn.a hn.len hn.cap, .slice hv.a hv.len hv.cap] 132)
  have B := hide (bAl (Below.refl w.heap.size w) (.cells #[.slice hn.a hn.len hn.cap, .slice hv.a hv.len hv.cap] 132))
  have SN := hide sn
  have SV := hide sv
  have en := sn.1
  have ev := sv.len
  clear sn sv on ov ln lv
  by_cases hlen : hn.len = hv.len
  case neg =>
    have d : ((hn.len : Int) == (hv.len : Int)) = false := by simp; omega
    have no : Hid (¬ Fields ns vs) := hide (fun h => hlen (by rw [en, ev, h.1]))
    clear en ev
    go_enter Tryz.func101, Tryz.ntmps101
    go_wp2_with fail
    go_ret
    exact ⟨retB (b := false) ⟨fun h => (by cases h), fun h => absurd h (unhide no)⟩, unhide B⟩
  have d : ((hn.len : Int) == (hv.len : Int)) = true := by simp; omega
  have E1 : Hid (vs.length = ns.length) := hide (by omega)
  have E2 := hide en
  clear en ev hlen
  go_enter Tryz.func101, Tryz.ntmps101
  go_wp2_with fail
  refine (unhide q1 _ ((unhide SN).keep (unhide B))).mono ?_
  rintro r w1 ⟨⟨b1, rfl, hb1⟩, hb⟩
  replace R := hide ((unhide R).keep hb)
  replace B := hide (bTr (unhide B) hb)
  have H1 := hide hb1
  clear hb hb1 q1
  have c0 := (unhide R).at (o := 0) (v := .slice hn.a hn.len hn.cap) rfl
  cases b1
  case false =>
    have no : Hid (¬ Fields ns vs) := hide (fun h => by have := (unhide H1).2 ⟨by exact_mod_cast h.2.1, h.2.2.1⟩; cases this)
    go_wp2_with fail
    go_ret
    exact ⟨retB (b := false) ⟨fun h => (by cases h), fun h => absurd h (unhide no)⟩, unhide B⟩
  replace H1 := hide ((unhide H1).1 rfl)
  have h50 : hn.len ≤ 50 := by have := (unhide H1).1; have := unhide E2; omega
  go_wp2_with fail
  refine (unhide q2 _ h50 ((unhide SN).keep (unhide B)).sl).mono ?_
  rintro r w2 ⟨⟨b2, rfl, hb2⟩, hb⟩
  replace R := hide ((unhide R).keep hb)
  replace B := hide (bTr (unhide B) hb)
  have H2 := hide hb2
  clear hb hb2 q2 c0
  have c1 := (unhide R).at (o := 1) (v := .slice hv.a hv.len hv.cap) rfl
  cases b2
  case false =>
    have no : Hid (¬ Fields ns vs) := hide (fun h => by have := (unhide H2).2 h.2.2.2.1; cases this)
    go_wp2_with fail
    go_ret
    exact ⟨retB (b := false) ⟨fun h => (by cases h), fun h => absurd h (unhide no)⟩, unhide B⟩
  replace H2 := hide ((unhide H2).1 rfl)
  go_wp2_with fail
  refine (unhide q3 _ ((unhide SV).keep (unhide B))).mono ?_
  rintro r w3 ⟨⟨b3, rfl, hb3⟩, hb⟩
  replace B := hide (bTr (unhide B) hb)
  have H3 := hide hb3
  clear hb hb3 q3 c1
  go_wp2_with fail
  go_ret
  refine ⟨retB (b := b3) ((unhide H3).trans ⟨fun h => ⟨unhide E1, by have := (unhide H1).1; omega, (unhide H1).2, unhide H2, h⟩, fun h => h.2.2.2.2⟩), unhide B⟩
set_option maxRecDepth 20000 in
set_option maxHeartbeats 4000000 in
theorem l11Fields_any (hn hv : Hd) (ns : List ByteArray) (vs : List ValT) (w : World) (on : ∀ q ∈ ns, ByteArray.size q ≤ maxLen) (ln : ns.length ≤ maxLen) (ov : ∀ q ∈ vs, ValueN q) (lv : vs.length ≤ maxLen) (sn : SqS w 0 hn ns) (sv : SqValue w 0 hv vs) :
    Calls Tryz.prog 44 #[.slice hn.a hn.len hn.cap, .slice hv.a hv.len hv.cap] w fun r w' => RetB r (Fields ns vs) ∧ Below w.heap.size w w' := by
  obtain ⟨l, rfl, sv⟩ := sv
  have en := sn.1
  have ev := sv.1
  have el : (l.map (·.t)).length = l.length := by simp
  rw [el] at lv
  unfold maxLen at ln lv
  obtain ⟨a1, len1, c1⟩ := hn
  obtain ⟨a2, len2, c2⟩ := hv
  simp only at en ev
  by_cases h20 : (len1 : Int) > 20
  · have no : Hid (¬ Fields ns (l.map (·.t))) := hide (fun h => by have := h.2.1; omega)
    have B := hide (Below.refl w.heap.size w)
    have d : decide (20 < (len1 : Int)) = true := by simpa using h20
    clear sn sv on ov en ev el ln lv
    go_enter Tryz.func44, Tryz.ntmps44
    go_wp2_with fail
    go_ret
    exact ⟨retB (b := false) ⟨fun h => (by cases h), fun h => absurd h (unhide no)⟩, unhide B⟩
  have d20 : decide (20 < (len1 : Int)) = false := by simp; omega
  by_cases hlen : len2 = len1
  case neg =>
    have no : Hid (¬ Fields ns (l.map (·.t))) := hide (fun h => by have := h.1; omega)
    have B := hide (Below.refl w.heap.size w)
    have d : ((len2 : Int) != (len1 : Int)) = true := by simp; omega
    clear sn sv on ov en ev el ln lv
    go_enter Tryz.func44, Tryz.ntmps44
    go_wp2_with fail
    go_ret
    exact ⟨retB (b := false) ⟨fun h => (by cases h), fun h => absurd h (unhide no)⟩, unhide B⟩
  obtain rfl : len1 = len2 := hlen.symm
  have dl : ((len1 : Int) != (len1 : Int)) = false := by simp
  have e12 : Hid (l.length = ns.length ∧ len1 = ns.length ∧ ns.length ≤ 20) := hide (by omega)
  have SN := hide sn
  have SV := hide sv
  have ON := hide on
  have OV : Hid (∀ e ∈ l, ValueN e.t) := hide (fun e he => ov _ (List.mem_map_of_mem he))
  have yes : Hid ((∀ i, i < ns.length → FldAt ns (l.map (·.t)) i) → Fields ns (l.map (·.t))) := hide (fun h => fields_of (by rw [el]; exact (unhide e12).1) (unhide e12).2.2 h)
  have hl20 : len1 ≤ 20 := by omega
  clear sn sv on ov en ev el ln lv h20
  go_enter Tryz.func44, Tryz.ntmps44
  go_wp2
  go_loopw [19] (fun i w' => ∃ k : Nat, k ≤ len1 ∧ i = .int .i64 k ∧ Hid (Below w.heap.size w w') ∧ Hid (∀ i, i < k → FldAt ns (l.map (·.t)) i)) (fun i _ => len1 - (intOf i).toNat)
  case atStart => exact ⟨0, Nat.zero_le _, rfl, hide (Below.refl _ _), hide (fun i h => absurd h (Nat.not_lt_zero _))⟩
  case round =>
    obtain ⟨k, hk, rfl, B, hA⟩ := hrel
    by_cases hlt : k < len1
    case neg =>
      have Y : Hid (Fields ns (l.map (·.t))) := hide (unhide yes (fun i h => unhide hA i (by have := (unhide e12).2.1; omega)))
      go_wp2_with fail
      go_ret
      exact ⟨retB (b := true) ⟨fun _ => unhide Y, fun _ => rfl⟩, unhide B⟩
    have hk' : k < ns.length := by have := unhide e12; omega
    have hk2 : k < l.length := by have := unhide e12; omega
    have NO : Hid (¬ FldAt ns (l.map (·.t)) k → ¬ Fields ns (l.map (·.t))) := hide (fun h g => h (g.at k))
    have STEP : Hid (FldAt ns (l.map (·.t)) k → ∀ i, i < k + 1 → FldAt ns (l.map (·.t)) i) := hide (fun g i h1 => by
      rcases Nat.lt_or_ge i k with h2 | h2
      · exact unhide hA i h2
      · obtain rfl : i = k := by omega
        exact g)
    have IFF := hide (fldAt_iff (ns := ns) (l := l) hk' hk2)
    have q1 := hide (fun w => sGoodName_any ns[k] (unhide ON _ (List.getElem_mem hk')) w)
    have q3 := hide (fun w (hm : ValueM w 0 l[k]) => sGoodValue_any l[k].t (unhide OV _ (List.getElem_mem hk2)).ok l[k].h2.a l[k].h3.a l[k].h2.len l[k].h2.cap l[k].h3.len l[k].h3.cap w hm.m2.sl hm.m3.sl)
    have M := hide ((unhide SV).2.2 _ (List.getElem_mem hk2))
    obtain ⟨b1, off1, e1, r1⟩ := ((unhide SN).keep (unhide B)).sl.at hlt
    obtain ⟨b2, off2, e2, r2⟩ := (unhide SV).at (k := k) (by have := unhide e12; have := (unhide SV).1; omega)
    simp only at e1 e2
    subst e1 e2
    have R1 := hide r1
    have R2 := hide (fun (w' : World) (hb : Below w.heap.size w w') => r2.fr (Fr.below hb 0) (Nat.zero_le _))
    have n0 := r1.c k hk'
    clear r1 r2 hA yes
    have DV : Hid (FldV l[k].t ↔ (GoodVal l[k].t ∧ ¬ l[k].t.k = 3)) := hide ⟨fun h => ⟨h.2, h.1⟩, fun h => ⟨h.2, h.1⟩⟩
    by_cases g : goodName ns[k] = true
    case neg =>
      have g' : goodName ns[k] = false := by simpa using g
      have no := hide (unhide NO (fun h => g ((unhide IFF).1 h).1))
      rw [g'] at q1
      clear g g' NO STEP q3 R2 IFF DV
      generalize ns[k] = s at *
      go_wp2_with fail
      refine (unhide q1 _).mono ?_
      rintro r w1 ⟨rfl, rfl⟩
      go_wp2_with fail
      go_ret
      exact ⟨retB (b := false) ⟨fun h => (by cases h), fun h => absurd h (unhide no)⟩, unhide B⟩
    rw [g] at q1
    have TAIL : ∀ (hlow : 0 < k → cmpT ns[k - 1].data.toList ns[k].data.toList < 0), Hid ((FldV l[k].t → ∀ i, i < k + 1 → FldAt ns (l.map (·.t)) i) ∧ (¬ FldV l[k].t → ¬ Fields ns (l.map (·.t)))) := fun hlow =>
      hide ⟨fun h => unhide STEP ((unhide IFF).2 ⟨g, hlow, h⟩), fun h => unhide NO (fun f => h ((unhide IFF).1 f).2.2)⟩
    by_cases hk0 : k = 0
    · subst hk0
      have TL := TAIL (fun h => absurd h (Nat.lt_irrefl _))
      clear TAIL STEP NO IFF g R1
      generalize ns[0] = s at *
      simp only [Nat.add_zero] at n0
      go_wp2_with fail
      refine (unhide q1 _).mono ?_
      rintro r w1 ⟨rfl, rfl⟩
      clear q1 n0
      have rr := unhide R2 _ (unhide B)
      have v0 := rr.c0 0 hk2
      have v1 := rr.c1 0 hk2
      have v2 := rr.c2 0 hk2
      have v3 := rr.c3 0 hk2
      have v4 := rr.c4 0 hk2
      have v5 := rr.c5 0 hk2
      have v6 := rr.c6 0 hk2
      simp only [Nat.zero_mul, Nat.add_zero] at v0 v1 v2 v3 v4 v5 v6
      clear rr R2
      generalize l[0] = A at *
      go_wp2_with fail
      refine (unhide q3 _ ((unhide M).keep (unhide B))).mono ?_
      rintro r w5 ⟨⟨v, rfl, hv⟩, hb⟩
      have HV := hide hv
      have BO := hide hb
      replace B := hide (bTr (unhide B) hb)
      clear hb hv q3 M
      have e0 := cellB (unhide BO) (World.block_lt_of_cell? _ _ v0) v0
      clear v0 v1 v2 v3 v4 v5 v6 BO
      cases v
      case false =>
        have no := hide ((unhide TL).2 (fun h => by have := (unhide HV).2 ((unhide DV).1 h).1; cases this))
        clear TL DV HV
        go_wp2_with fail
        go_ret
        exact ⟨retB (b := false) ⟨fun h => (by cases h), fun h => absurd h (unhide no)⟩, unhide B⟩
      replace HV := hide ((unhide HV).1 rfl)
      by_cases h3 : A.t.k = 3
      · have no := hide ((unhide TL).2 (fun h => ((unhide DV).1 h).2 h3))
        have d3 : (A.t.k == 3) = true := by simp [h3]
        clear TL DV HV h3
        go_wp2_with fail
        go_ret
        exact ⟨retB (b := false) ⟨fun h => (by cases h), fun h => absurd h (unhide no)⟩, unhide B⟩
      · have S := hide ((unhide TL).1 ((unhide DV).2 ⟨unhide HV, h3⟩))
        have d3 : (A.t.k == 3) = false := by simpa using h3
        clear TL DV HV h3
        go_wp2_with fail
        exact ⟨⟨0 + 1, by omega, by go_num, B, S⟩, by simp [intOf]; omega⟩
    · obtain ⟨j, rfl⟩ : ∃ j, k = j + 1 := ⟨k - 1, by omega⟩
      have hj : j < ns.length := by omega
      have q2 := hide (fun (w : World) => cmpText_any ns[j] ns[j + 1] w (unhide ON _ (List.getElem_mem hj)))
      have n1 := (unhide R1).c j hj
      have zk := (unhide R1).z
      have ej : IntKind.i64.wrap ((j : Int) + 1 - 1) = (j : Int) := by rw [IntKind.wrap_i64]; omega
      have i0 : (0 : Int) ≤ (j : Int) := by omega
      have i1 : (j : Int) < (len1 : Int) := by omega
      have dz : decide (0 < (j : Int) + 1) = true := decide_eq_true (by omega)
      have CL : Hid (¬ cmpT ns[j].data.toList ns[j + 1].data.toList < 0 → ¬ Fields ns (l.map (·.t))) := hide (fun h => unhide NO (fun f => h (((unhide IFF).1 f).2.1 (by omega))))
      have TL2 : Hid (cmpT ns[j].data.toList ns[j + 1].data.toList < 0 → Hid ((FldV l[j + 1].t → ∀ i, i < j + 1 + 1 → FldAt ns (l.map (·.t)) i) ∧ (¬ FldV l[j + 1].t → ¬ Fields ns (l.map (·.t))))) := hide (fun h => TAIL (fun _ => h))
      clear TAIL STEP NO IFF g R1
      generalize ns[j + 1] = s at *
      generalize ns[j] = s' at *
      go_wp2_with fail
      refine (unhide q1 _).mono ?_
      rintro r w1 ⟨rfl, rfl⟩
      clear q1 n0
      go_wp2_with fail
      refine (unhide q2 _).mono ?_
      rintro r w2 ⟨rfl, hb⟩
      replace B := hide (bTr (unhide B) hb)
      clear hb q2 n1
      by_cases hc : cmpT s'.data.toList s.data.toList < 0
      case neg =>
        have no := hide (unhide CL (by omega))
        have dc : decide (0 ≤ cmpT s'.data.toList s.data.toList) = true := by simp; omega
        clear CL TL2 hc R2
        generalize cmpT s'.data.toList s.data.toList = c at *
        go_wp2_with fail
        go_ret
        exact ⟨retB (b := false) ⟨fun h => (by cases h), fun h => absurd h (unhide no)⟩, unhide B⟩
      have TL := unhide TL2 (by omega)
      have dc : decide (0 ≤ cmpT s'.data.toList s.data.toList) = false := by simp; omega
      clear CL TL2 hc
      generalize cmpT s'.data.toList s.data.toList = c at *
      have rr := unhide R2 _ (unhide B)
      have v0 := rr.c0 (j + 1) hk2
      have v1 := rr.c1 (j + 1) hk2
      have v2 := rr.c2 (j + 1) hk2
      have v3 := rr.c3 (j + 1) hk2
      have v4 := rr.c4 (j + 1) hk2
      have v5 := rr.c5 (j + 1) hk2
      have v6 := rr.c6 (j + 1) hk2
      clear rr R2
      generalize l[j + 1] = A at *
      go_wp2_with fail
      refine (unhide q3 _ ((unhide M).keep (unhide B))).mono ?_
      rintro r w5 ⟨⟨v, rfl, hv⟩, hb⟩
      have HV := hide hv
      have BO := hide hb
      replace B := hide (bTr (unhide B) hb)
      clear hb hv q3 M
      have e0 := cellB (unhide BO) (World.block_lt_of_cell? _ _ v0) v0
      clear v0 v1 v2 v3 v4 v5 v6 BO
      cases v
      case false =>
        have no := hide ((unhide TL).2 (fun h => by have := (unhide HV).2 ((unhide DV).1 h).1; cases this))
        clear TL DV HV
        go_wp2_with fail
        go_ret
        exact ⟨retB (b := false) ⟨fun h => (by cases h), fun h => absurd h (unhide no)⟩, unhide B⟩
      replace HV := hide ((unhide HV).1 rfl)
      by_cases h3 : A.t.k = 3
      · have no := hide ((unhide TL).2 (fun h => ((unhide DV).1 h).2 h3))
        have d3 : (A.t.k == 3) = true := by simp [h3]
        clear TL DV HV h3
        go_wp2_with fail
        go_ret
        exact ⟨retB (b := false) ⟨fun h => (by cases h), fun h => absurd h (unhide no)⟩, unhide B⟩
      · have S := hide ((unhide TL).1 ((unhide DV).2 ⟨unhide HV, h3⟩))
        have d3 : (A.t.k == 3) = false := by simpa using h3
        clear TL DV HV h3
        go_wp2_with fail
        exact ⟨⟨(j + 1) + 1, by omega, by go_num, B, S⟩, by simp [intOf]; omega⟩
end Go.Proofs.YtpfekkhnjaopdaaGreat.V
/- GoodThings, the program's side. -/
namespace Go.Proofs.YtpfekkhnjaopdaaGreat.V
set_option linter.unusedSimpArgs false
open Go.RowKit

def GTh (x : ThingT) : Prop := refA x.f0 = true ∧ (x.f1.length ≤ 50 ∧ ∀ p ∈ x.f1, refA p = true) ∧ RisA x.f1 x.f1.length ∧ Fields x.f2 x.f3
def GThs (xs : List ThingT) : Prop := (xs.length ≤ 100 ∧ ∀ x ∈ xs, GTh x) ∧ ∀ i (h : i + 1 < xs.length), xs[i].f0.cmp xs[i + 1].f0 < 0
theorem refA.good {A : AtomT} (h : refA A = true) : A.good = true := by unfold refA at h; simp at h; exact h.2
theorem RetB.t {e : Ending} {p : Prop} (h : RetB e p) (hp : p) : e = .returned (.bool true) := by obtain ⟨b, rfl, hb⟩ := h; rw [hb.2 hp]
theorem RetB.f {e : Ending} {p : Prop} (h : RetB e p) (hp : ¬ p) : e = .returned (.bool false) := by
  obtain ⟨b, rfl, hb⟩ := h
  cases b
  · rfl
  · exact absurd (hb.1 rfl) hp
theorem callsT {P : Program} {f : FuncId} {args : Array Value} {w : World} {p : Prop} (h : Calls P f args w fun e w' => RetB e p ∧ Below w.heap.size w w') (hp : p) : Calls P f args w fun e w' => e = .returned (.bool true) ∧ Below w.heap.size w w' := h.mono fun _ _ k => ⟨k.1.t hp, k.2⟩
theorem callsF {P : Program} {f : FuncId} {args : Array Value} {w : World} {p : Prop} (h : Calls P f args w fun e w' => RetB e p ∧ Below w.heap.size w w') (hp : ¬ p) : Calls P f args w fun e w' => e = .returned (.bool false) ∧ Below w.heap.size w w' := h.mono fun _ _ k => ⟨k.1.f hp, k.2⟩
set_option maxHeartbeats 1000000 in
theorem thFields_any (e : ThingE) (w : World) : Calls Tryz.prog 100 #[.agg #[.int .i64 e.t.f0.x, .int .i64 e.t.f0.n, .string e.t.f0.t, .string e.t.f0.y, .slice e.h1.a e.h1.len e.h1.cap, .slice e.h2.a e.h2.len e.h2.cap, .slice e.h3.a e.h3.len e.h3.cap]] w fun r w' => r = .returned (.agg #[.slice e.h2.a e.h2.len e.h2.cap, .slice e.h3.a e.h3.len e.h3.cap]) ∧ Below w.heap.size w w' := by
  go_enter Tryz.func100, Tryz.ntmps100
  go_wp2_with fail
  exact bodyPost_ret (v := .agg #[.slice e.h2.a e.h2.len e.h2.cap, .slice e.h3.a e.h3.len e.h3.cap]) (by simp [results, Tryz.results100, go_sem]) rfl ⟨rfl, bAl (bAl (Below.refl _ _) _) _⟩
set_option maxRecDepth 20000 in
set_option maxHeartbeats 2000000 in
theorem goodThing_any (e : ThingE) (w : World) (hn : ThingN e.t) (hm : ThingM w 0 e) :
    Calls Tryz.prog 81 #[.agg #[.int .i64 e.t.f0.x, .int .i64 e.t.f0.n, .string e.t.f0.t, .string e.t.f0.y, .slice e.h1.a e.h1.len e.h1.cap, .slice e.h2.a e.h2.len e.h2.cap, .slice e.h3.a e.h3.len e.h3.cap]] w fun r w' => RetB r (GTh e.t) ∧ Below w.heap.size w w' := by
  have q0 := hide (fun w => isRef_any e.t.f0 w hn.o0)
  have q1 := hide (fun w hs => goodList_ref (fun A => refA A = true) 50 e.h1 e.t.f1 w hn.l1 hs (fun x hx w' _ => isRef_any x w' (hn.o1 x hx)))
  have q2 := hide (fun w hl hs hg => risingA_any e.h1.a e.h1.len e.h1.cap e.t.f1 w hl hs hn.o1 hg)
  have q5 := hide (fun w sn sv => fieldsGood_any e.h2 e.h3 e.t.f2 e.t.f3 w hn.o2 hn.l2 hn.o3 hn.l3 sn sv)
  have R := hide (RowIs.new w #[.int .i64 e.t.f0.x, .int .i64 e.t.f0.n, .string e.t.f0.t, .string e.t.f0.y, .slice e.h1.a e.h1.len e.h1.cap, .slice e.h2.a e.h2.len e.h2.cap, .slice e.h3.a e.h3.len e.h3.cap] 56)
  have B := hide (bAl (Below.refl w.heap.size w) (.cells #[.int .i64 e.t.f0.x, .int .i64 e.t.f0.n, .string e.t.f0.t, .string e.t.f0.y, .slice e.h1.a e.h1.len e.h1.cap, .slice e.h2.a e.h2.len e.h2.cap, .slice e.h3.a e.h3.len e.h3.cap] 56))
  have M1 := hide hm.m1
  have M2 := hide hm.m2
  have M3 := hide hm.m3
  have EL := hide hm.m1.1
  have D : Hid (GTh e.t ↔ (refA e.t.f0 = true ∧ (e.t.f1.length ≤ 50 ∧ ∀ p ∈ e.t.f1, refA p = true) ∧ RisA e.t.f1 e.t.f1.length ∧ Fields e.t.f2 e.t.f3)) := hide Iff.rfl
  generalize GTh e.t = G at D ⊢
  generalize Fields e.t.f2 e.t.f3 = FF at D q5
  generalize refA e.t.f0 = b0 at D q0
  clear hn hm
  go_enter Tryz.func81, Tryz.ntmps81
  go_wp2_with fail
  refine (unhide q0 _).mono ?_
  rintro r w0 ⟨⟨v0, rfl, hv0⟩, hb⟩
  replace R := hide ((unhide R).keep hb)
  replace B := hide (bTr (unhide B) hb)
  clear hb q0
  cases v0
  case false =>
    have no : Hid (¬ G) := hide (fun h => by have := hv0.2 ((unhide D).1 h).1; cases this)
    clear D hv0
    go_wp2_with fail
    go_ret
    exact ⟨retB (b := false) ⟨fun h => (by cases h), fun h => absurd h (unhide no)⟩, unhide B⟩
  have g0 := hide (hv0.1 rfl)
  clear hv0
  have c4 := (unhide R).at (o := 4) (v := .slice e.h1.a e.h1.len e.h1.cap) rfl
  go_wp2_with fail
  refine (unhide q1 _ ((unhide M1).keep (unhide B))).mono ?_
  rintro r w1 ⟨⟨v1, rfl, hv1⟩, hb⟩
  replace R := hide ((unhide R).keep hb)
  replace B := hide (bTr (unhide B) hb)
  have H1 := hide hv1
  clear hb q1 c4 hv1
  cases v1
  case false =>
    have no : Hid (¬ G) := hide (fun h => by have k := ((unhide D).1 h).2.1; have := (unhide H1).2 ⟨by exact_mod_cast k.1, k.2⟩; cases this)
    clear D
    go_wp2_with fail
    go_ret
    exact ⟨retB (b := false) ⟨fun h => (by cases h), fun h => absurd h (unhide no)⟩, unhide B⟩
  replace H1 := hide ((unhide H1).1 rfl)
  have h50 : e.h1.len ≤ 50 := by have := (unhide H1).1; have := unhide EL; omega
  have c4 := (unhide R).at (o := 4) (v := .slice e.h1.a e.h1.len e.h1.cap) rfl
  go_wp2_with fail
  refine (unhide q2 _ h50 ((unhide M1).keep (unhide B)).sl (fun i hi _ => refA.good ((unhide H1).2 _ (List.getElem_mem hi)))).mono ?_
  rintro r w2 ⟨⟨v2, rfl, hv2⟩, hb⟩
  replace R := hide ((unhide R).keep hb)
  replace B := hide (bTr (unhide B) hb)
  have H2 := hide hv2
  clear hb q2 c4 hv2 h50
  cases v2
  case false =>
    have no : Hid (¬ G) := hide (fun h => by have := (unhide H2).2 ((unhide D).1 h).2.2.1; cases this)
    clear D
    go_wp2_with fail
    go_ret
    exact ⟨retB (b := false) ⟨fun h => (by cases h), fun h => absurd h (unhide no)⟩, unhide B⟩
  replace H2 := hide ((unhide H2).1 rfl)
  have D2 : Hid (G ↔ FF) := hide ⟨fun h => ((unhide D).1 h).2.2.2, fun h => (unhide D).2 ⟨unhide g0, ⟨by have := (unhide H1).1; omega, (unhide H1).2⟩, unhide H2, h⟩⟩
  clear D g0 H1 H2
  have c0 := (unhide R).at (o := 0) (v := .int .i64 e.t.f0.x) rfl
  have c1 := (unhide R).at (o := 1) (v := .int .i64 e.t.f0.n) rfl
  have c2 := (unhide R).at (o := 2) (v := .string e.t.f0.t) rfl
  have c3 := (unhide R).at (o := 3) (v := .string e.t.f0.y) rfl
  have c4 := (unhide R).at (o := 4) (v := .slice e.h1.a e.h1.len e.h1.cap) rfl
  have c5 := (unhide R).at (o := 5) (v := .slice e.h2.a e.h2.len e.h2.cap) rfl
  have c6 := (unhide R).at (o := 6) (v := .slice e.h3.a e.h3.len e.h3.cap) rfl
  go_wp2_with fail
  refine (thFields_any e _).mono ?_
  rintro r w4 ⟨rfl, hb⟩
  replace B := hide (bTr (unhide B) hb)
  clear hb R c0 c1 c2 c3 c4 c5 c6
  go_wp2_with fail
  refine (unhide q5 _ ((unhide M2).keep (unhide B)) ((unhide M3).keep (unhide B))).mono ?_
  rintro r w5 ⟨⟨v, rfl, hv⟩, hb⟩
  have HV := hide hv
  replace B := hide (bTr (unhide B) hb)
  clear hb hv q5
  go_wp2_with fail
  go_ret
  exact ⟨retB (b := v) ((unhide HV).trans (unhide D2).symm), unhide B⟩
set_option maxHeartbeats 1000000 in
theorem notGood_thing  (P : ThingE → Prop) (b : Nat) (x : ThingE) (w : World) (hc : w.cell? ⟨b, 0, none⟩ = some (.func (.func 81) #[] #[]))
    (q : ∀ w' : World, Below w.heap.size w w' → Calls Tryz.prog 81 #[.agg #[.int .i64 x.t.f0.x, .int .i64 x.t.f0.n, .string x.t.f0.t, .string x.t.f0.y, .slice x.h1.a x.h1.len x.h1.cap, .slice x.h2.a x.h2.len x.h2.cap, .slice x.h3.a x.h3.len x.h3.cap]] w' fun e w'' => RetB e (P x) ∧ Below w'.heap.size w' w'') :
    Calls Tryz.prog 97 #[.agg #[.int .i64 x.t.f0.x, .int .i64 x.t.f0.n, .string x.t.f0.t, .string x.t.f0.y, .slice x.h1.a x.h1.len x.h1.cap, .slice x.h2.a x.h2.len x.h2.cap, .slice x.h3.a x.h3.len x.h3.cap], .pointer (some ⟨b, 0, none⟩)] w fun e w' => RetB e (¬ P x) ∧ Below w.heap.size w w' := by
  have HB := hide (bAl (Below.refl w.heap.size w) (.cells #[.int .i64 x.t.f0.x, .int .i64 x.t.f0.n, .string x.t.f0.t, .string x.t.f0.y, .slice x.h1.a x.h1.len x.h1.cap, .slice x.h2.a x.h2.len x.h2.cap, .slice x.h3.a x.h3.len x.h3.cap] 56))
  have zb : b < w.heap.size := World.block_lt_of_cell? w ⟨b, 0, none⟩ hc
  have Q := hide (q _ (unhide HB))
  clear q
  go_enter Tryz.func97, Tryz.ntmps97
  go_wp2_with fail
  refine (unhide Q).mono ?_
  rintro e w1 ⟨⟨v, rfl, hv⟩, hb⟩
  have B1 := hide (bTr (unhide HB) hb)
  have HV := hide hv
  clear hb HB Q hc hv
  go_wp2_with fail
  go_ret
  refine ⟨retB (b := !v) ?_, unhide B1⟩
  rw [← unhide HV]; cases v <;> simp
set_option maxHeartbeats 1000000 in
theorem indexBad_thing  (P : ThingE → Prop) (b : Nat) (h : Hd) (l : List ThingE) (w : World) (hl : l.length ≤ maxLen) (hs : SqThingE w 0 h l) (hc : w.cell? ⟨b, 0, none⟩ = some (.func (.func 81) #[] #[]))
    (q : ∀ x ∈ l, ∀ w' : World, Below w.heap.size w w' → Calls Tryz.prog 81 #[.agg #[.int .i64 x.t.f0.x, .int .i64 x.t.f0.n, .string x.t.f0.t, .string x.t.f0.y, .slice x.h1.a x.h1.len x.h1.cap, .slice x.h2.a x.h2.len x.h2.cap, .slice x.h3.a x.h3.len x.h3.cap]] w' fun e w'' => RetB e (P x) ∧ Below w'.heap.size w' w'') :
    Calls Tryz.prog 115 #[.slice h.a h.len h.cap, .func (.func 97) #[] #[.pointer (some ⟨b, 0, none⟩)]] w fun e w' => (∃ v : Int, e = .returned (.int .i64 v) ∧ (0 ≤ v ↔ ¬ ∀ x ∈ l, P x)) ∧ Below w.heap.size w w' := by
  have HS := hide hs
  have zb : b < w.heap.size := World.block_lt_of_cell? w ⟨b, 0, none⟩ hc
  have HC := hide (fun (w' : World) (h : Below w.heap.size w w') => cellB (w' := w') h zb hc)
  have HQ := hide q
  have HL := hide hs.1
  have hlm : h.len ≤ maxLen := by rw [hs.1]; exact hl
  unfold maxLen at hlm
  obtain ⟨a, len, cap⟩ := h
  simp only at hlm HL
  clear hs hc q hl
  go_enter Tryz.func115, Tryz.ntmps115
  go_wp2_with fail
  go_loopw [8] (fun i w' => ∃ k : Nat, k ≤ len ∧ i = .int .i64 k ∧ Hid (Below w.heap.size w w') ∧ Hid (∀ i (h : i < l.length), i < k → P l[i])) (fun i _ => len - (Go.RowKit.intOf i).toNat)
  case atStart => exact ⟨0, Nat.zero_le _, rfl, hide (Below.refl _ _), hide (fun i _ h => absurd h (Nat.not_lt_zero _))⟩
  case round =>
    obtain ⟨k, hk, rfl, hb, hA⟩ := hrel
    by_cases hlt : k < len
    · have hk' : k < l.length := by have := unhide HL; omega
      obtain ⟨b1, off, e0, hrow⟩ := ((unhide HS).keep (unhide hb)).at hlt
      simp only at e0
      subst e0
      have c0 := hrow.c0 k hk'
      have c1 := hrow.c1 k hk'
      have c2 := hrow.c2 k hk'
      have c3 := hrow.c3 k hk'
      have c4 := hrow.c4 k hk'
      have c5 := hrow.c5 k hk'
      have c6 := hrow.c6 k hk'
      have zk := hrow.z
      have q := hide (notGood_thing  P b l[k] wr (unhide HC _ (unhide hb)) (fun w' h => unhide HQ _ (List.getElem_mem hk') w' (bTr (unhide hb) h)))
      have eS : Hid (P l[k] → ∀ i (h : i < l.length), i < k + 1 → P l[i]) := hide (fun g i hi h1 => by
        rcases Nat.lt_or_ge i k with h2 | h2
        · exact unhide hA i hi h2
        · obtain rfl : i = k := by omega
          exact g)
      have eN : Hid (¬ P l[k] → ¬ ∀ x ∈ l, P x) := hide (fun g h => g (h _ (List.getElem_mem hk')))
      clear hrow
      generalize l[k] = A at *
      go_wp2_with fail
      refine (unhide q).mono ?_
      rintro e w1 ⟨⟨v, rfl, hv⟩, hb1⟩
      have B1 := hide (bTr (unhide hb) hb1)
      have HV := hide hv
      clear hb1 q hv c0 c1 c2 c3 c4 c5 c6
      cases v
      · have S := hide (unhide eS (Classical.byContradiction fun h => by have := (unhide HV).2 h; cases this))
        clear eS eN HV
        go_wp2_with fail
        exact ⟨⟨k + 1, by omega, by go_num, B1, S⟩, by simp [Go.RowKit.intOf]; omega⟩
      · have N := hide (unhide eN ((unhide HV).1 rfl))
        clear eS eN HV
        go_wp2_with fail
        go_ret
        exact ⟨⟨_, rfl, fun _ => unhide N, fun _ => by omega⟩, unhide B1⟩
    · have S : Hid (∀ x ∈ l, P x) := hide (fun x hx => by
        obtain ⟨i, hi, rfl⟩ := List.getElem_of_mem hx
        exact unhide hA i hi (by have := unhide HL; omega))
      go_wp2_with fail
      go_ret
      exact ⟨⟨_, rfl, fun h => absurd h (by decide), fun h => absurd (unhide S) h⟩, unhide hb⟩
set_option maxHeartbeats 1000000 in
theorem goodList_thing  (P : ThingE → Prop) (most : Int) (h : Hd) (l : List ThingE) (w : World) (hl : l.length ≤ maxLen) (hs : SqThingE w 0 h l)
    (q : ∀ x ∈ l, ∀ w' : World, Below w.heap.size w w' → Calls Tryz.prog 81 #[.agg #[.int .i64 x.t.f0.x, .int .i64 x.t.f0.n, .string x.t.f0.t, .string x.t.f0.y, .slice x.h1.a x.h1.len x.h1.cap, .slice x.h2.a x.h2.len x.h2.cap, .slice x.h3.a x.h3.len x.h3.cap]] w' fun e w'' => RetB e (P x) ∧ Below w'.heap.size w' w'') :
    Calls Tryz.prog 80 #[.slice h.a h.len h.cap, .int .i64 most, .func (.func 81) #[] #[]] w fun e w' => RetB e ((l.length : Int) ≤ most ∧ ∀ x ∈ l, P x) ∧ Below w.heap.size w w' := by
  have HS := hide hs
  have HQ := hide q
  have HL := hide hs.1
  have HM := hide hl
  clear hs q hl
  by_cases h200 : (h.len : Int) ≤ most
  · obtain ⟨W, hW⟩ : ∃ W, W = w.alloc (.cells #[.func (.func 81) #[] #[]] 115) := ⟨_, rfl⟩
    have R := show RowIs W w.heap.size #[.func (.func 81) #[] #[]] 115 by rw [hW]; exact RowIs.new _ _ _
    have B := hide (show Below w.heap.size w W by rw [hW]; exact bAl (Below.refl _ _) _)
    have HW := hide hW.symm
    clear hW
    have q := hide (fun hc => indexBad_thing  P w.heap.size h l W (unhide HM) ((unhide HS).keep (unhide B)) hc (fun x hx w' h => unhide HQ x hx w' (bTr (unhide B) h)))
    have q2 : Hid (Calls Tryz.prog 96 #[.slice h.a h.len h.cap, .func (.func 97) #[] #[.pointer (some ⟨w.heap.size, 0, none⟩)]] W fun e w' => (∃ v : Bool, e = .returned (.bool v) ∧ (v = true ↔ ¬ ∀ x ∈ l, P x)) ∧ Below W.heap.size W w') := hide (by
      have q := hide (unhide q (R.at (o := 0) rfl))
      go_enter Tryz.func96, Tryz.ntmps96
      go_wp2_with fail
      refine (unhide q).mono ?_
      rintro e w1 ⟨⟨v, rfl, hv⟩, hb⟩
      have HV := hide hv
      clear hv
      go_wp2_with fail
      go_ret
      exact ⟨⟨decide (0 ≤ v), rfl, by rw [decide_eq_true_iff]; exact unhide HV⟩, hb⟩)
    have hst := @run_store Tryz.prog
    clear q R
    go_enter Tryz.func80, Tryz.ntmps80
    go_wp2_with fail
    rw [unhide HW]
    refine (unhide q2).mono ?_
    rintro e w1 ⟨⟨v, rfl, hv⟩, hb⟩
    have HV := hide hv
    have B1 := hide (bTr (unhide B) hb)
    clear hv hb q2 hst HW B
    go_wp2_with fail
    go_ret
    have hle := unhide HL
    refine ⟨retB (b := !v) ⟨fun h => ?_, fun h => ?_⟩, unhide B1⟩
    · cases v
      · refine ⟨by omega, ?_⟩
        have := unhide HV
        exact Classical.byContradiction fun hn => by have := this.2 hn; cases this
      · cases h
    · cases v
      · rfl
      · exact absurd h.2 ((unhide HV).1 rfl)
  · have d : decide ((h.len : Int) ≤ most) = false := by simpa using h200
    have B := hide (bAl (Below.refl w.heap.size w) (.cells #[.func (.func 81) #[] #[]] 115))
    have hst := @run_store Tryz.prog
    go_enter Tryz.func80, Tryz.ntmps80
    go_wp2_with fail
    go_ret
    have hle := unhide HL
    exact ⟨retB (b := false) ⟨fun h => (by cases h), fun h => absurd h.1 (by omega)⟩, unhide B⟩
set_option maxHeartbeats 1000000 in
theorem byRef_any (P Q : ThingE) (w : World) (hp : ThingN P.t) (hq : ThingN Q.t) (gp : refA P.t.f0 = true) (gq : refA Q.t.f0 = true) :
    Calls Tryz.prog 79 #[.agg #[.int .i64 P.t.f0.x, .int .i64 P.t.f0.n, .string P.t.f0.t, .string P.t.f0.y, .slice P.h1.a P.h1.len P.h1.cap, .slice P.h2.a P.h2.len P.h2.cap, .slice P.h3.a P.h3.len P.h3.cap], .agg #[.int .i64 Q.t.f0.x, .int .i64 Q.t.f0.n, .string Q.t.f0.t, .string Q.t.f0.y, .slice Q.h1.a Q.h1.len Q.h1.cap, .slice Q.h2.a Q.h2.len Q.h2.cap, .slice Q.h3.a Q.h3.len Q.h3.cap]] w fun r w' => r = .returned (.int .i64 (P.t.f0.cmp Q.t.f0)) ∧ Below w.heap.size w w' := by
  have q := hide (fun w => AtomT.iCmp P.t.f0 Q.t.f0 hp.o0 hq.o0 (refA.good gp) (refA.good gq) w)
  have B := hide (bAl (bAl (Below.refl w.heap.size w) (.cells #[.int .i64 P.t.f0.x, .int .i64 P.t.f0.n, .string P.t.f0.t, .string P.t.f0.y, .slice P.h1.a P.h1.len P.h1.cap, .slice P.h2.a P.h2.len P.h2.cap, .slice P.h3.a P.h3.len P.h3.cap] 56)) (.cells #[.int .i64 Q.t.f0.x, .int .i64 Q.t.f0.n, .string Q.t.f0.t, .string Q.t.f0.y, .slice Q.h1.a Q.h1.len Q.h1.cap, .slice Q.h2.a Q.h2.len Q.h2.cap, .slice Q.h3.a Q.h3.len Q.h3.cap] 56))
  generalize P.t.f0.cmp Q.t.f0 = c at q ⊢
  clear hp hq gp gq
  go_enter Tryz.func79, Tryz.ntmps79
  go_wp2_with fail
  refine (unhide q _).mono ?_
  rintro r w1 ⟨rfl, hb⟩
  replace B := hide (bTr (unhide B) hb)
  clear hb
  go_wp2_with fail
  go_ret
  exact ⟨rfl, unhide B⟩
set_option maxRecDepth 20000 in
set_option maxHeartbeats 4000000 in
theorem rising_thing  (c : ThingE → ThingE → Int) (h : Hd) (l : List ThingE) (w : World) (hl : l.length ≤ maxLen) (hs : SqThingE w 0 h l)
    (qq : ∀ x ∈ l, ∀ y ∈ l, ∀ w' : World, Below w.heap.size w w' → Calls Tryz.prog 79 #[.agg #[.int .i64 x.t.f0.x, .int .i64 x.t.f0.n, .string x.t.f0.t, .string x.t.f0.y, .slice x.h1.a x.h1.len x.h1.cap, .slice x.h2.a x.h2.len x.h2.cap, .slice x.h3.a x.h3.len x.h3.cap], .agg #[.int .i64 y.t.f0.x, .int .i64 y.t.f0.n, .string y.t.f0.t, .string y.t.f0.y, .slice y.h1.a y.h1.len y.h1.cap, .slice y.h2.a y.h2.len y.h2.cap, .slice y.h3.a y.h3.len y.h3.cap]] w' fun e w'' => e = .returned (.int .i64 (c x y)) ∧ Below w'.heap.size w' w'') :
    Calls Tryz.prog 82 #[.slice h.a h.len h.cap, .func (.func 79) #[] #[]] w fun e w' => RetB e (∀ i (h : i + 1 < l.length), c l[i] l[i + 1] < 0) ∧ Below w.heap.size w w' := by
  have HS := hide hs
  have HQ := hide qq
  have HL := hide hs.1
  have hlm : h.len ≤ maxLen := by rw [hs.1]; exact hl
  unfold maxLen at hlm
  obtain ⟨a, len, cap⟩ := h
  simp only at hlm HL
  clear hs qq hl
  go_enter Tryz.func82, Tryz.ntmps82
  go_wp2
  go_loopw [5] (fun i w' => ∃ k : Nat, 1 ≤ k ∧ (k ≤ len ∨ k = 1) ∧ i = .int .i64 k ∧ Hid (Below w.heap.size w w') ∧ Hid (∀ i (h : i + 1 < l.length), i + 1 < k → c l[i] l[i + 1] < 0)) (fun i _ => len - (Go.RowKit.intOf i).toNat)
  case atStart => exact ⟨1, Nat.le_refl _, .inr rfl, rfl, hide (Below.refl _ _), hide (fun i _ h => absurd h (by omega))⟩
  case round =>
    obtain ⟨k, hk1, hk, rfl, hb, hris⟩ := hrel
    by_cases hlt : k < len
    · obtain ⟨j, rfl⟩ : ∃ j, k = j + 1 := ⟨k - 1, by omega⟩
      have hk' : j + 1 < l.length := by have := unhide HL; omega
      have hj : j < l.length := by omega
      obtain ⟨b1, off, e0, hrow⟩ := ((unhide HS).keep (unhide hb)).at hlt
      simp only at e0
      subst e0
      have p0 := hrow.c0 (j + 1) hk'
      have p1 := hrow.c1 (j + 1) hk'
      have p2 := hrow.c2 (j + 1) hk'
      have p3 := hrow.c3 (j + 1) hk'
      have p4 := hrow.c4 (j + 1) hk'
      have p5 := hrow.c5 (j + 1) hk'
      have p6 := hrow.c6 (j + 1) hk'
      have o0 := hrow.c0 j hj
      have o1 := hrow.c1 j hj
      have o2 := hrow.c2 j hj
      have o3 := hrow.c3 j hj
      have o4 := hrow.c4 j hj
      have o5 := hrow.c5 j hj
      have o6 := hrow.c6 j hj
      have zk := hrow.z
      have qc := hide (fun (q : Kept wr) => unhide HQ l[j] (List.getElem_mem hj) l[j + 1] (List.getElem_mem hk') q.w (bTr (unhide hb) q.h))
      have stepR : Hid (c l[j] l[j + 1] < 0 → ∀ i (h : i + 1 < l.length), i + 1 < j + 1 + 1 → c l[i] l[i + 1] < 0) := hide (fun g i hi h1 => by
        rcases Nat.lt_or_ge i j with h2 | h2
        · exact unhide hris i hi (by omega)
        · obtain rfl : i = j := by omega
          exact g)
      have noR : Hid (¬ c l[j] l[j + 1] < 0 → ¬ ∀ i (h : i + 1 < l.length), c l[i] l[i + 1] < 0) := hide (fun g h => g (h j hk'))
      clear hrow hris
      generalize c l[j] l[j + 1] = cc at qc stepR noR
      generalize l[j + 1] = P at p0 p1 p2 p3 p4 p5 p6 qc
      generalize l[j] = Q at o0 o1 o2 o3 o4 o5 o6 qc
      have ne : Nonempty (Kept wr) := ⟨⟨wr, Below.refl _ _⟩⟩
      have x0 := kept_cell zk p0
      have y0 := kept_cell zk o0
      have x1 := kept_cell zk p1
      have y1 := kept_cell zk o1
      have x2 := kept_cell zk p2
      have y2 := kept_cell zk o2
      have x3 := kept_cell zk p3
      have y3 := kept_cell zk o3
      have x4 := kept_cell zk p4
      have y4 := kept_cell zk o4
      have x5 := kept_cell zk p5
      have y5 := kept_cell zk o5
      have x6 := kept_cell zk p6
      have y6 := kept_cell zk o6
      have ej : IntKind.i64.wrap ((j : Int) + 1 - 1) = (j : Int) := by rw [IntKind.wrap_i64]; omega
      have i0 : (0 : Int) ≤ (j : Int) := by omega
      have i1 : (j : Int) < (len : Int) := by omega
      have i2 : (j : Int) + 1 < (len : Int) := by omega
      clear p0 o0 p1 o1 p2 o2 p3 o3 p4 o4 p5 o5 p6 o6 zk
      by_cases hc : cc < 0
      · have dc : decide (0 ≤ cc) = false := by simp; omega
        replace stepR := hide (unhide stepR hc)
        clear hc noR
        go_wp2_with fail
        refine wp_region_kept (by kernel_rfl) (by kernel_rfl) ?_
        repeat (first
          | go_big_quiet_step ((go_at_call 79; exact kept_call (unhide qc _)))
          | quiet_step ((go_at_call 79; exact kept_call (unhide qc _))))
        refine wpQuiet_nil ?_
        rintro _ ⟨q, rfl⟩
        go_wp2_with fail
        exact ⟨⟨j + 1 + 1, by omega, by omega, by go_num, hide (bTr (unhide hb) q.h), stepR⟩, by simp [Go.RowKit.intOf]; omega⟩
      · have dc : decide (0 ≤ cc) = true := by simp; omega
        replace noR := hide (unhide noR hc)
        clear hc stepR
        go_wp2_with fail
        refine wp_region_kept (by kernel_rfl) (by kernel_rfl) ?_
        repeat (first
          | go_big_quiet_step ((go_at_call 79; exact kept_call (unhide qc _)))
          | quiet_step ((go_at_call 79; exact kept_call (unhide qc _))))
        refine wpQuiet_nil ?_
        rintro _ ⟨q, rfl⟩
        go_wp2_with fail
        go_ret
        exact ⟨retB (b := false) ⟨fun h => (by cases h), fun h => absurd h (unhide noR)⟩, bTr (unhide hb) q.h⟩
    · have hR : Hid (∀ i (h : i + 1 < l.length), c l[i] l[i + 1] < 0) := hide (fun i h => unhide hris i h (by have := unhide HL; omega))
      clear hris
      go_wp2_with fail
      go_ret
      exact ⟨retB (b := true) ⟨fun _ => unhide hR, fun _ => rfl⟩, unhide hb⟩
set_option maxHeartbeats 1000000 in
theorem iGoodThings_n (h : Hd) (xs : List ThingT) (w : World) (hn : ∀ q ∈ xs, ThingN q) (hl : xs.length ≤ maxLen) (hs : SqThing w 0 h xs) :
    Calls Tryz.prog 52 #[.slice h.a h.len h.cap] w fun r w' => RetB r (GThs xs) ∧ Below w.heap.size w w' := by
  obtain ⟨l, rfl, hs⟩ := hs
  have hl' : l.length ≤ maxLen := by simpa using hl
  have hn' : ∀ e ∈ l, ThingN e.t := fun e he => hn _ (List.mem_map_of_mem he)
  have q1 := hide (goodList_thing (fun e => GTh e.t) 100 h l w hl' hs (fun x hx w' hb => goodThing_any x w' (hn' x hx) ((hs.2.2 x hx).keep hb)))
  have q2 : Hid ((∀ x ∈ l, GTh x.t) → l.length ≤ maxLen → ∀ w1, Below w.heap.size w w1 → Calls Tryz.prog 82 #[.slice h.a h.len h.cap, .func (.func 79) #[] #[]] w1 fun e w' => RetB e (∀ i (h : i + 1 < l.length), (l[i]).t.f0.cmp (l[i + 1]).t.f0 < 0) ∧ Below w1.heap.size w1 w') := hide (fun hg hm w1 hb =>
    rising_thing (fun x y => x.t.f0.cmp y.t.f0) h l w1 hm (hs.keep hb) (fun x hx y hy w' _ => byRef_any x y w' (hn' x hx) (hn' y hy) (hg x hx).1 (hg y hy).1))
  have D : Hid (GThs (l.map (·.t)) ↔ ((l.length ≤ 100 ∧ ∀ x ∈ l, GTh x.t) ∧ ∀ i (h : i + 1 < l.length), (l[i]).t.f0.cmp (l[i + 1]).t.f0 < 0)) := hide (by
    unfold GThs
    simp)
  generalize GThs (l.map (·.t)) = G at D ⊢
  clear hs hl hn hn' hl'
  go_enter Tryz.func52, Tryz.ntmps52
  go_wp2_with fail
  refine (unhide q1).mono ?_
  rintro r w1 ⟨⟨v1, rfl, hv1⟩, hb⟩
  have B := hide hb
  have H1 := hide hv1
  clear hb hv1 q1
  cases v1
  case false =>
    have no : Hid (¬ G) := hide (fun h => by have k := ((unhide D).1 h).1; have := (unhide H1).2 ⟨by exact_mod_cast k.1, k.2⟩; cases this)
    clear D q2
    go_wp2_with fail
    go_ret
    exact ⟨retB (b := false) ⟨fun h => (by cases h), fun h => absurd h (unhide no)⟩, unhide B⟩
  replace H1 := hide ((unhide H1).1 rfl)
  have h100 : l.length ≤ 100 := by have := (unhide H1).1; omega
  go_wp2_with fail
  refine (unhide q2 (unhide H1).2 (by unfold maxLen; omega) _ (unhide B)).mono ?_
  rintro r w2 ⟨⟨v2, rfl, hv2⟩, hb⟩
  replace B := hide (bTr (unhide B) hb)
  have H2 := hide hv2
  clear hb hv2 q2
  go_wp2_with fail
  go_ret
  exact ⟨retB (b := v2) ((unhide H2).trans ⟨fun h => (unhide D).2 ⟨⟨h100, (unhide H1).2⟩, h⟩, fun h => ((unhide D).1 h).2⟩), unhide B⟩
end Go.Proofs.YtpfekkhnjaopdaaGreat.V
