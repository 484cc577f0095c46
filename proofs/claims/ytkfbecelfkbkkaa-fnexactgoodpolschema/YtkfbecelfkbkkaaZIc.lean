/- impl: attrList.good, goodThingType, goodActionType. -/
import Derived.Test.YtkfbecelfkbkkaaZIb
import Derived.Test.YtkfbecelfkbkkaaZSe
import Derived.Test.YtkfbecelfkbkkaaTId
namespace Go.Proofs.Ytkfbecelfkbkkaa.V
set_option linter.unusedSimpArgs false
set_option linter.unusedVariables false
open Go.RowKit

theorem kindP_iff {ns : List ByteArray} (h0 : ¬ (⟨#[]⟩ : ByteArray) ∈ ns) (kind : ByteArray) : kindP (fun s => s ∈ ns) kind ↔ GKind ns kind := by
  have key : ∀ K : ByteArray, ((preB K refP = true ∧ cutB K refP ∈ ns) ∨ (preB K refP = false ∧ K ∈ six)) ↔ ((hdB K refP = true ∧ rest4 K ∈ ns) ∨ (hdB K refP = false ∧ K ∈ six)) := by
    intro K
    have cut : preB K refP = true → cutB K refP = rest4 K := fun h => by simp [cutB, rest4, h, refP_size]
    constructor
    · rintro (⟨h1, h2⟩ | ⟨h1, h2⟩)
      · rw [cut h1] at h2
        refine .inl ⟨(hd_pre _ _).2 ⟨h1, fun e => h0 ?_⟩, h2⟩
        rw [refP_size] at e
        have hz : (rest4 K).size = 0 := by simp [rest4, e]
        have he : rest4 K = ⟨#[]⟩ := by
          generalize rest4 K = X at hz
          obtain ⟨d⟩ := X
          have : d = #[] := Array.eq_empty_of_size_eq_zero hz
          rw [this]
        rw [← he]; exact h2
      · refine .inr ⟨?_, h2⟩
        cases e : hdB K refP
        · rfl
        · have := ((hd_pre _ _).1 e).1; rw [h1] at this; cases this
    · rintro (⟨h1, h2⟩ | ⟨_, h2⟩)
      · have := ((hd_pre _ _).1 h1).1
        exact .inl ⟨this, by rw [cut this]; exact h2⟩
      · exact .inr ⟨(six_pre K h2).1, h2⟩
  unfold kindP GKind
  rw [key]
  unfold kbase
  by_cases hp : preB kind setP = true
  · have hc : cutB kind setP = rest4 kind := by simp [cutB, rest4, hp, setP_size]
    by_cases hz : kind.size = 4
    · have hh : ¬ hdB kind setP = true := fun h => ((hd_pre _ _).1 h).2 (by rw [setP_size]; exact hz)
      rw [if_neg hh, hc]
      have hz0 : (rest4 kind).size = 0 := by simp [rest4, hz]
      have n1 : ∀ K : ByteArray, K.size ≤ 4 → hdB K refP = false := fun K hK => by
        unfold hdB
        rw [refP_size]
        have : decide (4 < K.size) = false := by simp; omega
        rw [this]; rfl
      rw [n1 _ (by omega), n1 _ (by omega)]
      have six0 : ∀ b ∈ six, 0 < b.size ∧ preB b setP = false := fun b hb => ⟨by
        simp only [six, List.mem_cons, List.not_mem_nil, or_false] at hb
        rcases hb with rfl | rfl | rfl | rfl | rfl | rfl <;> decide, (six_pre b hb).2⟩
      constructor
      · rintro (⟨h, _⟩ | ⟨_, h⟩)
        · cases h
        · have := (six0 _ h).1; omega
      · rintro (⟨h, _⟩ | ⟨_, h⟩)
        · cases h
        · have := (six0 _ h).2; rw [hp] at this; cases this
    · have hh : hdB kind setP = true := (hd_pre _ _).2 ⟨hp, by rw [setP_size]; exact hz⟩
      rw [if_pos hh, hc]
  · have hp' : preB kind setP = false := by simpa using hp
    have hh : ¬ hdB kind setP = true := fun h => hp ((hd_pre _ _).1 h).1
    have hc : cutB kind setP = kind := by simp [cutB, hp']
    rw [if_neg hh, hc]
set_option maxHeartbeats 1000000 in
theorem attr1_n (b1 b2 bc : Nat) (ns : List ByteArray) (e : AttrKindE) (w : World) (h0 : ¬ (⟨#[]⟩ : ByteArray) ∈ ns) (hn : AttrKindN e.t) (hc : w.cell? ⟨bc, 0, none⟩ = some (.func (.func 125) #[.agg #[.map (some b1), .map (some b2)]] #[])) (hk : KT w b1 ns) :
    Calls Try.prog 148 #[.agg #[.string e.t.f0, .string e.t.f1, .bool e.t.f2], .pointer (some ⟨bc, 0, none⟩)] w fun r w' => RetB r (GAttr ns e.t) ∧ Below w.heap.size w w' := by
  have zb : bc < w.heap.size := World.block_lt_of_cell? w ⟨bc, 0, none⟩ hc
  have B := hide (bAl (Below.refl w.heap.size w) (.cells #[.string e.t.f0, .string e.t.f1, .bool e.t.f2] 138))
  have R := hide (RowIs.new w #[.string e.t.f0, .string e.t.f1, .bool e.t.f2] 138)
  have q1 := hide (fun w => iGoodName_any e.t.f0 hn.o0 w)
  have q2 := hide (fun (w' : World) (hb : Below w.heap.size w w') => isKind_typ b1 b2 (fun s => s ∈ ns) e.t.f1 w' hn.o1 (fun s hs w'' hb2 => isType_n b1 b2 ns s w'' hs ((hk.keep hb).keep hb2)))
  have HC := hide (fun (w' : World) (hb : Below w.heap.size w w') => cellB hb zb hc)
  have D : Hid (GAttr ns e.t ↔ (goodName e.t.f0 = true ∧ kindP (fun s => s ∈ ns) e.t.f1)) := hide (by unfold GAttr; rw [kindP_iff h0])
  generalize GAttr ns e.t = G at D ⊢
  generalize kindP (fun s => s ∈ ns) e.t.f1 = KP at D q2
  clear hn hc hk h0 zb
  cases g : goodName e.t.f0
  · rw [g] at q1
    have no : Hid (¬ G) := hide (fun h => by have := ((unhide D).1 h).1; rw [g] at this; cases this)
    clear g D q2
    go_enter Try.func148, Try.ntmps148
    go_wp2_with fail
    refine (unhide q1 _).mono ?_
    rintro r w1 ⟨rfl, hb⟩
    replace B := hide (bTr (unhide B) hb)
    clear hb
    go_wp2_with fail
    go_ret
    exact ⟨retB (b := false) ⟨fun h => (by cases h), fun h => absurd h (unhide no)⟩, unhide B⟩
  · rw [g] at q1
    have D2 : Hid (G ↔ KP) := hide ((unhide D).trans ⟨fun h => h.2, fun h => ⟨g, h⟩⟩)
    clear g D
    go_enter Try.func148, Try.ntmps148
    go_wp2_with fail
    refine (unhide q1 _).mono ?_
    rintro r w1 ⟨rfl, hb⟩
    replace R := hide ((unhide R).keep hb)
    replace B := hide (bTr (unhide B) hb)
    have c1 := (unhide R).at (o := 1) (v := .string e.t.f1) rfl
    have cc := unhide HC _ (unhide B)
    clear hb q1 HC
    go_wp2_with fail
    refine (unhide q2 _ (unhide B)).mono ?_
    rintro r w2 ⟨⟨v, rfl, hv⟩, hb⟩
    have HV := hide hv
    replace B := hide (bTr (unhide B) hb)
    clear hb hv q2 c1 cc
    go_wp2_with fail
    go_ret
    exact ⟨retB (b := v) ((unhide HV).trans (unhide D2).symm), unhide B⟩
set_option maxHeartbeats 1000000 in
theorem notGood_attr (bc : Nat) (P : AttrKindE → Prop) (b : Nat) (x : AttrKindE) (w : World) (hc : w.cell? ⟨b, 0, none⟩ = some (.func (.func 148) #[] #[.pointer (some ⟨bc, 0, none⟩)]))
    (q : ∀ w' : World, Below w.heap.size w w' → Calls Try.prog 148 #[.agg #[.string x.t.f0, .string x.t.f1, .bool x.t.f2], .pointer (some ⟨bc, 0, none⟩)] w' fun e w'' => RetB e (P x) ∧ Below w'.heap.size w' w'') :
    Calls Try.prog 164 #[.agg #[.string x.t.f0, .string x.t.f1, .bool x.t.f2], .pointer (some ⟨b, 0, none⟩)] w fun e w' => RetB e (¬ P x) ∧ Below w.heap.size w w' := by
  have HB := hide (bAl (Below.refl w.heap.size w) (.cells #[.string x.t.f0, .string x.t.f1, .bool x.t.f2] 138))
  have zb : b < w.heap.size := World.block_lt_of_cell? w ⟨b, 0, none⟩ hc
  have Q := hide (q _ (unhide HB))
  clear q
  go_enter Try.func164, Try.ntmps164
  go_wp2_with fail
  refine (unhide Q).mono ?_
  rintro e w1 ⟨⟨v, rfl, hv⟩, hb⟩
  have B1 := hide (bTr (unhide HB) hb)
  have HV := hide hv
  clear hb HB Q hc hv
  go_wp2_with fail
  go_ret
  refine ⟨retB (b := !v) ?_, unhide B1⟩
  rw [← unhide HV]; cases v <;> simp
set_option maxHeartbeats 1000000 in
theorem indexBad_attr (bc : Nat) (P : AttrKindE → Prop) (b : Nat) (h : Hd) (l : List AttrKindE) (w : World) (hl : l.length ≤ maxLen) (hs : SqAttrKindE w 0 h l) (hc : w.cell? ⟨b, 0, none⟩ = some (.func (.func 148) #[] #[.pointer (some ⟨bc, 0, none⟩)]))
    (q : ∀ x ∈ l, ∀ w' : World, Below w.heap.size w w' → Calls Try.prog 148 #[.agg #[.string x.t.f0, .string x.t.f1, .bool x.t.f2], .pointer (some ⟨bc, 0, none⟩)] w' fun e w'' => RetB e (P x) ∧ Below w'.heap.size w' w'') :
    Calls Try.prog 171 #[.slice h.a h.len h.cap, .func (.func 164) #[] #[.pointer (some ⟨b, 0, none⟩)]] w fun e w' => (∃ v : Int, e = .returned (.int .i64 v) ∧ (0 ≤ v ↔ ¬ ∀ x ∈ l, P x)) ∧ Below w.heap.size w w' := by
  have HS := hide hs
  have zb : b < w.heap.size := World.block_lt_of_cell? w ⟨b, 0, none⟩ hc
  have HC := hide (fun (w' : World) (h : Below w.heap.size w w') => cellB (w' := w') h zb hc)
  have HQ := hide q
  have HL := hide hs.1
  have hlm : h.len ≤ maxLen := by rw [hs.1]; exact hl
  unfold maxLen at hlm
  obtain ⟨a, len, cap⟩ := h
  simp only at hlm HL
  clear hs hc q hl
  go_enter Try.func171, Try.ntmps171
  go_wp2_with fail
  go_loopw [8] (fun i w' => ∃ k : Nat, k ≤ len ∧ i = .int .i64 k ∧ Hid (Below w.heap.size w w') ∧ Hid (∀ i (h : i < l.length), i < k → P l[i])) (fun i _ => len - (Go.RowKit.intOf i).toNat)
  case atStart => exact ⟨0, Nat.zero_le _, rfl, hide (Below.refl _ _), hide (fun i _ h => absurd h (Nat.not_lt_zero _))⟩
  case round =>
    obtain ⟨k, hk, rfl, hb, hA⟩ := hrel
    by_cases hlt : k < len
    · have hk' : k < l.length := by have := unhide HL; omega
      obtain ⟨bb_, off, e0, hrow⟩ := ((unhide HS).keep (unhide hb)).at hlt
      simp only at e0
      subst e0
      have c0 := hrow.c0 k hk'
      have c1 := hrow.c1 k hk'
      have c2 := hrow.c2 k hk'
      have zk := hrow.z
      have q := hide (notGood_attr bc P b l[k] wr (unhide HC _ (unhide hb)) (fun w' h => unhide HQ _ (List.getElem_mem hk') w' (bTr (unhide hb) h)))
      have eS : Hid (P l[k] → ∀ i (h : i < l.length), i < k + 1 → P l[i]) := hide (fun g i hi h1 => by
        rcases Nat.lt_or_ge i k with h2 | h2
        · exact unhide hA i hi h2
        · obtain rfl : i = k := by omega
          exact g)
      have eN : Hid (¬ P l[k] → ¬ ∀ x ∈ l, P x) := hide (fun g h => g (h _ (List.getElem_mem hk')))
      clear hrow
      generalize l[k] = A at *
      go_wp2_with fail
      refine (unhide q).mono ?_
      rintro e w1 ⟨⟨v, rfl, hv⟩, hb1⟩
      have B1 := hide (bTr (unhide hb) hb1)
      have HV := hide hv
      clear hb1 q hv c0 c1 c2
      cases v
      · have S := hide (unhide eS (Classical.byContradiction fun h => by have := (unhide HV).2 h; cases this))
        clear eS eN HV
        go_wp2_with fail
        exact ⟨⟨k + 1, by omega, by go_num, B1, S⟩, by simp [Go.RowKit.intOf]; omega⟩
      · have N := hide (unhide eN ((unhide HV).1 rfl))
        clear eS eN HV
        go_wp2_with fail
        go_ret
        exact ⟨⟨_, rfl, fun _ => unhide N, fun _ => by omega⟩, unhide B1⟩
    · have S : Hid (∀ x ∈ l, P x) := hide (fun x hx => by
        obtain ⟨i, hi, rfl⟩ := List.getElem_of_mem hx
        exact unhide hA i hi (by have := unhide HL; omega))
      go_wp2_with fail
      go_ret
      exact ⟨⟨_, rfl, fun h => absurd h (by decide), fun h => absurd (unhide S) h⟩, unhide hb⟩
set_option maxHeartbeats 1000000 in
theorem goodList_attr (bc : Nat) (P : AttrKindE → Prop) (most : Int) (h : Hd) (l : List AttrKindE) (w : World) (hl : l.length ≤ maxLen) (hs : SqAttrKindE w 0 h l)
    (q : ∀ x ∈ l, ∀ w' : World, Below w.heap.size w w' → Calls Try.prog 148 #[.agg #[.string x.t.f0, .string x.t.f1, .bool x.t.f2], .pointer (some ⟨bc, 0, none⟩)] w' fun e w'' => RetB e (P x) ∧ Below w'.heap.size w' w'') :
    Calls Try.prog 150 #[.slice h.a h.len h.cap, .int .i64 most, .func (.func 148) #[] #[.pointer (some ⟨bc, 0, none⟩)]] w fun e w' => RetB e ((l.length : Int) ≤ most ∧ ∀ x ∈ l, P x) ∧ Below w.heap.size w w' := by
  have HS := hide hs
  have HQ := hide q
  have HL := hide hs.1
  have HM := hide hl
  clear hs q hl
  by_cases h200 : (h.len : Int) ≤ most
  · obtain ⟨W, hW⟩ : ∃ W, W = w.alloc (.cells #[.func (.func 148) #[] #[.pointer (some ⟨bc, 0, none⟩)]] 188) := ⟨_, rfl⟩
    have R := show RowIs W w.heap.size #[.func (.func 148) #[] #[.pointer (some ⟨bc, 0, none⟩)]] 188 by rw [hW]; exact RowIs.new _ _ _
    have B := hide (show Below w.heap.size w W by rw [hW]; exact bAl (Below.refl _ _) _)
    have HW := hide hW.symm
    clear hW
    have q := hide (fun hc => indexBad_attr bc P w.heap.size h l W (unhide HM) ((unhide HS).keep (unhide B)) hc (fun x hx w' h => unhide HQ x hx w' (bTr (unhide B) h)))
    have q2 : Hid (Calls Try.prog 163 #[.slice h.a h.len h.cap, .func (.func 164) #[] #[.pointer (some ⟨w.heap.size, 0, none⟩)]] W fun e w' => (∃ v : Bool, e = .returned (.bool v) ∧ (v = true ↔ ¬ ∀ x ∈ l, P x)) ∧ Below W.heap.size W w') := hide (by
      have q := hide (unhide q (R.at (o := 0) rfl))
      go_enter Try.func163, Try.ntmps163
      go_wp2_with fail
      refine (unhide q).mono ?_
      rintro e w1 ⟨⟨v, rfl, hv⟩, hb⟩
      have HV := hide hv
      clear hv
      go_wp2_with fail
      go_ret
      exact ⟨⟨decide (0 ≤ v), rfl, by rw [decide_eq_true_iff]; exact unhide HV⟩, hb⟩)
    have hst := @run_store Try.prog
    clear q R
    go_enter Try.func150, Try.ntmps150
    go_wp2_with fail
    rw [unhide HW]
    refine (unhide q2).mono ?_
    rintro e w1 ⟨⟨v, rfl, hv⟩, hb⟩
    have HV := hide hv
    have B1 := hide (bTr (unhide B) hb)
    clear hv hb q2 hst HW B
    go_wp2_with fail
    go_ret
    have hle := unhide HL
    refine ⟨retB (b := !v) ⟨fun h => ?_, fun h => ?_⟩, unhide B1⟩
    · cases v
      · refine ⟨by omega, ?_⟩
        have := unhide HV
        exact Classical.byContradiction fun hn => by have := this.2 hn; cases this
      · cases h
    · cases v
      · rfl
      · exact absurd h.2 ((unhide HV).1 rfl)
  · have d : decide ((h.len : Int) ≤ most) = false := by simpa using h200
    have B := hide (bAl (Below.refl w.heap.size w) (.cells #[.func (.func 148) #[] #[.pointer (some ⟨bc, 0, none⟩)]] 188))
    have hst := @run_store Try.prog
    go_enter Try.func150, Try.ntmps150
    go_wp2_with fail
    go_ret
    have hle := unhide HL
    exact ⟨retB (b := false) ⟨fun h => (by cases h), fun h => absurd h.1 (by omega)⟩, unhide B⟩
set_option maxRecDepth 20000 in
set_option maxHeartbeats 2000000 in
theorem attrsGood_n (b1 b2 : Nat) (ns : List ByteArray) (h : Hd) (xs : List AttrKindT) (w : World) (h0 : ¬ (⟨#[]⟩ : ByteArray) ∈ ns) (hl : xs.length ≤ maxLen) (hn : ∀ q ∈ xs, AttrKindN q) (hk : KT w b1 ns) (hs : SqAttrKind w 0 h xs) :
    Calls Try.prog 124 #[.slice h.a h.len h.cap, .func (.func 125) #[.agg #[.map (some b1), .map (some b2)]] #[]] w fun r w' => RetB r (GAttrs ns xs) ∧ Below w.heap.size w w' := by
  obtain ⟨l, rfl, hs⟩ := hs
  have hl' : l.length ≤ maxLen := by simpa using hl
  have hn' : ∀ e ∈ l, AttrKindN e.t := fun e he => hn _ (List.mem_map_of_mem he)
  obtain ⟨W, hW⟩ : ∃ W, W = w.alloc (.cells #[.func (.func 125) #[.agg #[.map (some b1), .map (some b2)]] #[]] 91) := ⟨_, rfl⟩
  have bW : Below w.heap.size w W := by rw [hW]; exact bAl (Below.refl _ _) _
  have rW : RowIs W w.heap.size #[.func (.func 125) #[.agg #[.map (some b1), .map (some b2)]] #[]] 91 := by rw [hW]; exact RowIs.new w _ _
  have q1 := hide (goodList_attr w.heap.size (fun e => GAttr ns e.t) 20 h l W hl' (hs.keep bW) (fun x hx w' hb => attr1_n b1 b2 w.heap.size ns x w' h0 (hn' x hx) ((rW.keep hb).at rfl) ((hk.keep bW).keep hb)))
  have q2 := hide (fun (w' : World) (hb : Below w.heap.size w w') => byName_ak h l w' hl' (hs.keep hb))
  have D : Hid (GAttrs ns (l.map (·.t)) ↔ ((l.length ≤ 20 ∧ ∀ x ∈ l, GAttr ns x.t) ∧ ∀ i (h : i + 1 < l.length), cmpT l[i].t.f0.data.toList l[i + 1].t.f0.data.toList < 0)) := hide (by unfold GAttrs RisN'; simp)
  generalize GAttrs ns (l.map (·.t)) = G at D ⊢
  have HW := hide hW.symm
  have B := hide bW
  clear hW bW rW hl hn hk hs hl' hn' h0
  go_enter Try.func124, Try.ntmps124
  go_wp2_with fail
  rw [unhide HW]
  refine (unhide q1).mono ?_
  rintro r w1 ⟨⟨v1, rfl, hv1⟩, hb⟩
  replace B := hide (bTr (unhide B) hb)
  have H1 := hide hv1
  clear hb hv1 q1 HW
  cases v1
  case false =>
    have no : Hid (¬ G) := hide (fun g => by have k := ((unhide D).1 g).1; have := (unhide H1).2 ⟨by exact_mod_cast k.1, k.2⟩; cases this)
    clear D q2
    go_wp2_with fail
    go_ret
    exact ⟨retB (b := false) ⟨fun h => (by cases h), fun h => absurd h (unhide no)⟩, unhide B⟩
  replace H1 := hide ((unhide H1).1 rfl)
  go_wp2_with fail
  refine (unhide q2 _ (unhide B)).mono ?_
  rintro r w2 ⟨⟨v2, rfl, hv2⟩, hb⟩
  replace B := hide (bTr (unhide B) hb)
  have H2 := hide hv2
  clear hb hv2 q2
  go_wp2_with fail
  go_ret
  exact ⟨retB (b := v2) ((unhide H2).trans ⟨fun h => (unhide D).2 ⟨⟨by have := (unhide H1).1; omega, (unhide H1).2⟩, h⟩, fun h => ((unhide D).1 h).2⟩), unhide B⟩
set_option maxRecDepth 20000 in
set_option maxHeartbeats 2000000 in
theorem goodThingType_n (b1 b2 : Nat) (ns : List ByteArray) (e : ThingTypeE) (w : World) (h0 : ¬ (⟨#[]⟩ : ByteArray) ∈ ns) (hn : ThingTypeN e.t) (hm : ThingTypeM w 0 e) (hk : KT w b1 ns) :
    Calls Try.prog 91 #[.agg #[.map (some b1), .map (some b2)], .agg #[.string e.t.f0, .slice e.h1.a e.h1.len e.h1.cap, .slice e.h2.a e.h2.len e.h2.cap]] w fun r w' => RetB r (GTypes ns e.t.f1 ∧ GAttrs ns e.t.f2) ∧ Below w.heap.size w w' := by
  have q1 := hide (fun (w' : World) (hb : Below w.heap.size w w') => goodTypes_n b1 b2 ns e.h1 e.t.f1 w' hn.l1 hn.o1 (hk.keep hb) (hm.m1.keep hb))
  have q2 := hide (fun (w' : World) (hb : Below w.heap.size w w') => attrsGood_n b1 b2 ns e.h2 e.t.f2 w' h0 hn.l2 hn.o2 (hk.keep hb) (hm.m2.keep hb))
  have P := hide ((RowIs.new w #[.map (some b1), .map (some b2)] 102).keep (bAl (Below.refl _ _) (.cells #[.string e.t.f0, .slice e.h1.a e.h1.len e.h1.cap, .slice e.h2.a e.h2.len e.h2.cap] 90)))
  have R : Hid (RowIs ((w.alloc (.cells #[.map (some b1), .map (some b2)] 102)).alloc (.cells #[.string e.t.f0, .slice e.h1.a e.h1.len e.h1.cap, .slice e.h2.a e.h2.len e.h2.cap] 90)) (w.heap.size + 1) #[.string e.t.f0, .slice e.h1.a e.h1.len e.h1.cap, .slice e.h2.a e.h2.len e.h2.cap] 90) := hide (by have := RowIs.new (w.alloc (.cells #[.map (some b1), .map (some b2)] 102)) #[.string e.t.f0, .slice e.h1.a e.h1.len e.h1.cap, .slice e.h2.a e.h2.len e.h2.cap] 90; simpa using this)
  have B := hide (bAl (bAl (Below.refl w.heap.size w) (.cells #[.map (some b1), .map (some b2)] 102)) (.cells #[.string e.t.f0, .slice e.h1.a e.h1.len e.h1.cap, .slice e.h2.a e.h2.len e.h2.cap] 90))
  have D : Hid ((GTypes ns e.t.f1 ∧ GAttrs ns e.t.f2) ↔ (GTypes ns e.t.f1 ∧ GAttrs ns e.t.f2)) := hide Iff.rfl
  generalize hG : (GTypes ns e.t.f1 ∧ GAttrs ns e.t.f2) = G
  replace D : Hid (G ↔ (GTypes ns e.t.f1 ∧ GAttrs ns e.t.f2)) := hide (by rw [← hG])
  clear hG
  generalize GTypes ns e.t.f1 = PT at D q1
  generalize GAttrs ns e.t.f2 = PA at D q2
  clear hn hm hk h0
  go_enter Try.func91, Try.ntmps91
  go_wp2_with fail
  refine (unhide q1 _ (unhide B)).mono ?_
  rintro r w1 ⟨⟨v, rfl, hv⟩, hb⟩
  replace R := hide ((unhide R).keep hb)
  replace P := hide ((unhide P).keep hb)
  replace B := hide (bTr (unhide B) hb)
  have H_w1 := hide hv
  clear hb hv q1 
  cases v
  case false =>
    have no : Hid (¬ G) := hide (fun g => by have := (unhide H_w1).2 (((unhide D).1 g).1); cases this)
    clear D
    go_wp2_with fail
    go_ret
    exact ⟨retB (b := false) ⟨fun h => (by cases h), fun h => absurd h (unhide no)⟩, unhide B⟩
  replace H_w1 := hide ((unhide H_w1).1 rfl)
  have c2 := (unhide R).at (o := 2) (v := .slice e.h2.a e.h2.len e.h2.cap) rfl
  have p0 := (unhide P).at (o := 0) (v := .map (some b1)) rfl
  have p1 := (unhide P).at (o := 1) (v := .map (some b2)) rfl
  go_wp2_with fail
  refine (unhide q2 _ (unhide B)).mono ?_
  rintro r w2 ⟨⟨v, rfl, hv⟩, hb⟩
  have HV := hide hv
  replace B := hide (bTr (unhide B) hb)
  clear hb hv q2 c2 p0 p1
  go_wp2_with fail
  go_ret
  exact ⟨retB (b := v) ((unhide HV).trans ⟨fun h => (unhide D).2 ⟨unhide H_w1, h⟩, fun h => ((unhide D).1 h).2⟩), unhide B⟩
end Go.Proofs.Ytkfbecelfkbkkaa.V
