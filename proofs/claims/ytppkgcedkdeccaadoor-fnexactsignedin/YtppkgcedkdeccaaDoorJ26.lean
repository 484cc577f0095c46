/- LPd, LPe, LPf, one behind the other. -/
import Derived.Test.YtppkgcedkdeccaaDoorJ25
import Derived.Deep.RegionWith
import Derived.Conc.SmallLaws
/- Sessions: an Id is given. -/
namespace Go.Proofs.YtppkgcedkdeccaaDoor
set_option linter.unusedSimpArgs false
set_option linter.unusedVariables false
set_option maxRecDepth 20000
open Go.RowKit Go.Maps

theorem put_run {P : Program} {k : TypeId} {α : Type} {enc : α → Value} {ok : α → Prop} [DecidableEq α] {w : World} (K : KeyKind P k enc ok) {t e : TypeId} (ht : P.underlying t = some (.map k e)) {b n : Nat} {M : α → Option Value} (hk : KM P k enc w b n M) (hn : n < maxLen) (y : α) (c : Value) (hy : ok y) :
    ∃ w', (Instr.mapUpdate t (.map (some b)) (enc y) c).run P w = .ok () w' ∧ KM P k enc w' b (n + 1) (updK M y c) ∧ w.grownBy w' (some b) ∧ w'.heap.size = w.heap.size := by
  obtain ⟨D, hown, hD⟩ := hk
  obtain ⟨kl, hkl⟩ := K.key y hy
  obtain ⟨w', hrun, h1, h2⟩ := hown.store K.law ht hn hkl (d := .held c) (ps := []) (show hvR c = _ from rfl)
  refine ⟨w', hrun, ⟨_, h1, fun y' kl' hk' => ?_⟩, h2.grown, (by obtain ⟨es, cl, es', cl', _, rfl⟩ := h2; simp [ChangeMaps.setBlock])⟩
  by_cases e : y' = y
  · subst e
    obtain rfl : kl' = kl := by rw [hkl] at hk'; exact (Option.some.inj hk').symm
    have hu : updK M y' c y' = some c := by simp [updK]
    rw [hu]
    refine ⟨Maps.has_put_same hown.isMap (K.law.key hkl) _, fun c' hc' z => ?_⟩
    cases hc'
    exact Maps.atKey_put_same hown.isMap (K.law.key hkl) _ z
  · have hne : kl' ≠ kl := fun e2 => e (K.inj _ _ (K.law.inj hk' (by rw [e2]; exact hkl)))
    have hu : updK M y c y' = M y' := by simp [updK, e]
    rw [hu, Maps.has_put_other hne]
    refine ⟨(hD y' kl' hk').1, fun c' hc' z => ?_⟩
    rw [Maps.atKey_put_other hne]
    exact (hD y' kl' hk').2 c' hc' z

/-- All but three blocks and what is new is as it was. -/
structure But3 (p q r : Nat) (w w' : World) : Prop where
  os : w'.os = w.os
  tape : w'.tape = w.tape
  output : w'.output = w.output
  size : w.heap.size ≤ w'.heap.size
  block : ∀ k, k < w.heap.size → k ≠ p → k ≠ q → k ≠ r → w'.heap[k]? = w.heap[k]?
theorem But3.refl (p q r : Nat) (w : World) : But3 p q r w w := ⟨rfl, rfl, rfl, Nat.le_refl _, fun _ _ _ _ _ => rfl⟩
theorem But3.trans {p q r : Nat} {x y z : World} (h : But3 p q r x y) (k : But3 p q r y z) : But3 p q r x z :=
  ⟨k.os.trans h.os, k.tape.trans h.tape, k.output.trans h.output, Nat.le_trans h.size k.size, fun i hi h1 h2 h3 => (k.block i (Nat.lt_of_lt_of_le hi h.size) h1 h2 h3).trans (h.block i hi h1 h2 h3)⟩
theorem But3.of {p q r : Nat} {w w' : World} (h : Below w.heap.size w w') : But3 p q r w w' := ⟨h.os, h.tape, h.output, h.size, fun k hk _ _ _ => h.block k hk⟩
theorem But3.setP {p q r : Nat} (w : World) (o : Nat) (v : Value) : But3 p q r w (w.setCell ⟨p, o, none⟩ v) := ⟨rfl, rfl, rfl, by simp [World.setCell], fun k _ h1 _ _ => heap_setCell_other w ⟨p, o, none⟩ k v h1⟩
theorem But3.setQ {p q r : Nat} (w : World) (o : Nat) (v : Value) : But3 p q r w (w.setCell ⟨q, o, none⟩ v) := ⟨rfl, rfl, rfl, by simp [World.setCell], fun k _ _ h1 _ => heap_setCell_other w ⟨q, o, none⟩ k v h1⟩
theorem But3.grown {p q r : Nat} {w w' : World} (h : w.grownBy w' (some r)) : But3 p q r w w' := ⟨h.os, h.tape, h.output, h.size, fun k hk _ _ h1 => h.block k hk (fun e => h1 (Option.some.inj e))⟩
theorem goodSess : goodName sessB = true := by decide +kernel
theorem idT (kl : Nat) (key : List UInt8) (n : Nat) (hk : kl ≤ 64) (h1 : 1 ≤ n) (h2 : n ≤ 1000000) : D.hdT kl key sessB (n : Int) = idOf key n := by
  unfold D.hdT idOf
  rw [if_pos ⟨hk, goodSess, by omega, by omega⟩]
set_option maxHeartbeats 8000000 in
theorem giveId_low (b sb mo me n : Nat) (ka : Option Addr) (kl kc : Nat) (x : SsT) (ov : Value) (s0 : ByteArray) (c1 c2 c3 c4 c5 c6 c7 : Value) (Mo : ByteArray → Option Value) (w : World) (hv : RowIs w b (vC ka kl kc x mo me ov) 69) (hs : RowIs w sb #[.string s0, c1, c2, c3, c4, c5, c6, c7] 103) (hne : sb ≠ b) (hm : KM Tryd.prog 9 Value.string w mo n Mo) (hn : n ≤ 1000) (hmo : mo ≠ b ∧ mo ≠ sb)
    (hk : D.SlB w b ka kl x.key) (hkb : kl ≤ 64) (hg : x.given ≤ 1000) (hM : ∀ w', But3 b sb mo w w' → D.Mults w') (hT : ∀ w', But3 b sb mo w w' → Tab w') :
    Calls Tryd.prog 67 #[.pointer (some ⟨b, 0, none⟩), .pointer (some ⟨sb, 0, none⟩)] w fun e w' => e = .returned (.tuple #[]) ∧ RowIs w' b (vC ka kl kc { x with given := x.given + 1 } mo me ov) 69 ∧ RowIs w' sb #[.string (idOf x.key (x.given + 1)), c1, c2, c3, c4, c5, c6, c7] 103 ∧ KM Tryd.prog 9 Value.string w' mo (n + 1) (updK Mo (idOf x.key (x.given + 1)) (.pointer (some ⟨sb, 0, none⟩))) ∧ But3 b sb mo w w' := by
  have HM := hide hM
  have HT := hide hT
  have HN := hide hmo
  have NE := hide hne
  obtain ⟨W1, hW1⟩ : ∃ W, W = w.setCell ⟨b, 4, none⟩ (.int .i64 ((x.given + 1 : Nat) : Int)) := ⟨_, rfl⟩
  have a4 := hv.at (o := 4) (v := .int .i64 (x.given : Int)) rfl
  have b4 := hv.froz 4
  have bz := hv.lt
  have R1 := hide (show RowIs W1 b (vC ka kl kc { x with given := x.given + 1 } mo me ov) 69 by rw [hW1]; exact hv.set 4 _)
  have S1 := hide (show RowIs W1 sb #[.string s0, c1, c2, c3, c4, c5, c6, c7] 103 by rw [hW1]; exact hs.setOther _ hne)
  have K1 := hide (show D.SlB W1 b ka kl x.key by rw [hW1]; exact hk.keepB ((Below.refl b w).setCell (Nat.le_refl _) _))
  have M1 := hide (show KM Tryd.prog 9 Value.string W1 mo n Mo by rw [hW1]; exact hm.block (heap_setCell_other w ⟨b, 4, none⟩ mo _ hmo.1))
  have B1 := hide (show But3 b sb mo w W1 by rw [hW1]; exact But3.setP w 4 _)
  have e1 : IntKind.i64.wrap ((x.given : Int) + 1) = ((x.given + 1 : Nat) : Int) := by rw [IntKind.wrap_i64]; omega
  have HW := hide hW1.symm
  clear hW1 hv hs hk hm hM hT hmo hne
  have bd : Below W1.heap.size W1 W1.drew := (Below.refl _ _).drew
  have BD := hide bd
  have qc := hide (D.iHandleOf_any ka kl kc x.key sessB ((x.given + 1 : Nat) : Int) W1.drew (by omega) (by decide) (((unhide K1).keep bd).mono (by have := (unhide R1).lt; show b ≤ W1.heap.size; omega)) (by omega) (by omega) (unhide HM _ ((unhide B1).trans (But3.of bd))) (unhide HT _ ((unhide B1).trans (But3.of bd))))
  rw [idT kl x.key (x.given + 1) hkb (by omega) (by omega)] at qc
  unfold sessB at qc
  have c0 := (unhide R1).at (o := 0) (v := .slice ka kl kc) rfl
  have c4' := (unhide R1).at (o := 4) (v := .int .i64 ((x.given + 1 : Nat) : Int)) rfl
  have cz := (unhide R1).lt
  have IS := hide (idOf_size x.key (x.given + 1) (by omega))
  clear bd
  generalize idOf x.key (x.given + 1) = I at *
  generalize ((x.given + 1 : Nat) : Int) = G at *
  go_enter Tryd.func67, Tryd.ntmps67
  go_upto_region 1 with fail
  refine wp_world (unhide HW) ?_
  clear HW a4 b4 bz
  go_region_with (go_at_call 76; (with_reducible refine (unhide qc).mono ?_); rintro e w3 ⟨rfl, hb3⟩; have S3 := hide (((unhide S1).keep (unhide BD)).keep hb3); have R3 := hide (((unhide R1).keep (unhide BD)).keep hb3); have M3 := hide ((unhide M1).keepB (bTr (unhide BD) hb3) (unhide M1).lt); have B3 := hide ((unhide B1).trans (But3.of (bTr (unhide BD) hb3))); have s0c := (unhide S3).at (o := 0) (v := .string s0) rfl; have s0f := (unhide S3).froz 0; have s0z := (unhide S3).lt; clear hb3)
  all_goals
    obtain ⟨W4, hW4⟩ : ∃ W, W = w3.setCell ⟨sb, 0, none⟩ (.string I) := ⟨_, rfl⟩
    have HW4 := hide hW4.symm
    have S4 := hide (show RowIs W4 sb #[.string I, c1, c2, c3, c4, c5, c6, c7] 103 by rw [hW4]; exact (unhide S3).set 0 _)
    have R4 := hide (show RowIs W4 b (vC ka kl kc { x with given := x.given + 1 } mo me ov) 69 by rw [hW4]; exact (unhide R3).setOther _ (fun e => unhide NE e.symm))
    have M4 := hide (show KM Tryd.prog 9 Value.string W4 mo n Mo by rw [hW4]; exact (unhide M3).block (heap_setCell_other w3 ⟨sb, 0, none⟩ mo _ (unhide HN).2))
    have B4 := hide (show But3 b sb mo w W4 by rw [hW4]; exact (unhide B3).trans (But3.setQ w3 0 _))
    have BD4 : Below W4.heap.size W4 W4.drew := (Below.refl _ _).drew
    obtain ⟨w5, hrun5, hk5, hg5, hs5⟩ := put_run (t := 65) kStr Tryd.underlying65 ((unhide M4).keepB BD4 (unhide M4).lt) (by unfold maxLen; omega) I (.pointer (some ⟨sb, 0, none⟩)) (by have := unhide IS; show I.size ≤ maxLen; unfold maxLen; omega)
    have o5 := (unhide R4).at (o := 5) (v := .map (some mo)) rfl
    have oz := (unhide R4).lt
    have t0 := (unhide S4).at (o := 0) (v := .string I) rfl
    have tz := (unhide S4).lt
    have K5 := hide hk5
    have G5 := hide hg5
    clear hW4 s0c s0f s0z c0 c4' cz hk5 hg5
    go_upto_region 2 with fail
    refine wp_world (unhide HW4) ?_
    go_region
    go_wp2_with fail
    go_end0
    have nb : some b ≠ some mo := fun e => (unhide HN).1 (Option.some.inj e).symm
    have ns : some sb ≠ some mo := fun e => (unhide HN).2 (Option.some.inj e).symm
    exact ⟨rfl, row_grown ((unhide R4).keep BD4) (unhide G5) nb, row_grown ((unhide S4).keep BD4) (unhide G5) ns, unhide K5, ((unhide B4).trans (But3.of BD4)).trans (But3.grown (unhide G5))⟩
end Go.Proofs.YtppkgcedkdeccaaDoor
/- Sessions: the channel of a user. -/
namespace Go.Proofs.YtppkgcedkdeccaaDoor
set_option linter.unusedSimpArgs false
set_option linter.unusedVariables false
set_option maxRecDepth 20000
open Go.RowKit Go.Maps


theorem info_st : ∃ i, Tryd.prog.info? 100 = some i ∧ i.bytes = 0 := by
  have h : (Tryd.prog.info? 100).map (·.bytes) = some 0 := by kernel_rfl
  obtain ⟨i, hi, hb⟩ := Option.map_eq_some_iff.1 h
  exact ⟨i, hi, hb⟩
theorem mkCh (W : World) : (Instr.makeChan 101 (.int .i64 0)).run Tryd.prog W = .ok (.chan (some W.heap.size)) (W.alloc (.chan 0 #[] false 0 0 false)) := by
  obtain ⟨i, hi, hb⟩ := info_st
  simpa using Go.Conc.run_makeChan (P := Tryd.prog) (w := W) Tryd.underlying101 hi .i64 0 (by omega) (by rw [hb]; omega)
/-- What asking for a user's channel comes to. -/
def EvOf (w : World) (me n : Nat) (M : ByteArray → Option Value) (u : ByteArray) (c : Nat) (w' : World) : Prop :=
  (M u = some (.chan (some c)) ∧ KM Tryd.prog 9 Value.string w' me n M ∧ Below w.heap.size w w') ∨ (M u = none ∧ w.heap.size ≤ c ∧ ChanAt w' c false ∧ KM Tryd.prog 9 Value.string w' me (n + 1) (updK M u (.chan (some c))) ∧ But3 me me me w w')
set_option maxHeartbeats 4000000 in
theorem everywhereOf_low (b mo me n : Nat) (ka : Option Addr) (kl kc : Nat) (x : SsT) (ov : Value) (M : ByteArray → Option Value) (u : ByteArray) (w : World) (hv : RowIs w b (vC ka kl kc x mo me ov) 69) (hm : KM Tryd.prog 9 Value.string w me n M) (hn : n ≤ 1000) (hu : u.size ≤ maxLen) (hc : ∀ v, M u = some v → ∃ c, v = .chan (some c)) :
    Calls Tryd.prog 66 #[.pointer (some ⟨b, 0, none⟩), .string u] w fun e w' => ∃ c, e = .returned (.chan (some c)) ∧ EvOf w me n M u c w' := by
  have HV := hide hv
  have HK := hide hm
  have hz : ∀ w, (zeroValue 101).run Tryd.prog w = .ok (.chan none) w := fun w => by kernel_rfl
  have c6 := hv.at (o := 6) (v := .map (some me)) rfl
  have cz := hv.lt
  cases hM : M u with
  | some v =>
    obtain ⟨c, rfl⟩ := hc v hM
    have er := hide (show (M u).isSome = true by rw [hM]; rfl)
    have ev := hide (show (M u).getD (.chan none) = .chan (some c) by rw [hM]; rfl)
    have HM := hide hM
    clear hv hm hc hM
    go_enter Tryd.func66, Tryd.ntmps66
    go_wp2_with (first | (at_lookup; refine wpList_look_km _ kStr rfl _ _ _ rfl _ Tryd.underlying66 (hz _) me n _ rfl (unhide HK) u rfl hu _ _ (unhide ev) (unhide er) ?_) | (at_lookup; refine wpList_get_km _ kStr rfl _ _ _ rfl _ Tryd.underlying66 (hz _) me n _ rfl (unhide HK) u rfl hu _ (unhide ev) ?_))
    go_ret
    exact ⟨c, rfl, .inl ⟨unhide HM, unhide HK, Below.refl _ _⟩⟩
  | none =>
    have er := hide (show (M u).isSome = false by rw [hM]; rfl)
    have ev := hide (show (M u).getD (.chan none) = .chan none by rw [hM]; rfl)
    have HM := hide hM
    clear hv hm hc hM
    obtain ⟨W1, hW1⟩ : ∃ W, W = w.alloc (.chan 0 #[] false 0 0 false) := ⟨_, rfl⟩
    have b1 : Below w.heap.size w W1 := by rw [hW1]; exact bAl (Below.refl _ _) _
    have bd : Below w.heap.size w W1.drew := bTr b1 (Below.refl _ _).drew
    have CH : ChanAt W1.drew w.heap.size false := ⟨0, 0, by show W1.heap[w.heap.size]? = _; rw [hW1]; exact heap_alloc_new _ _⟩
    obtain ⟨w5, hrun5, hk5, hg5, hs5⟩ := put_run (t := 66) kStr Tryd.underlying66 ((unhide HK).keepB bd (unhide HK).lt) (by unfold maxLen; omega) u (.chan (some w.heap.size)) hu
    have nm : w.heap.size ≠ me := by have := (unhide HK).lt; omega
    have CH5 := hide (CH.same (hg5.block _ CH.lt (fun e => nm (Option.some.inj e))))
    have K5 := hide hk5
    have B5 := hide ((But3.of (p := me) (q := me) (r := me) bd).trans (But3.grown hg5))
    have V5 := hide (row_grown ((unhide HV).keep bd) hg5 (fun e => by
      have q := (unhide HV)
      obtain ⟨es, cl, e2⟩ := (unhide HK).is
      unfold RowIs at q
      rw [Option.some.inj e] at q
      rw [q] at e2
      cases e2))
    have d6 := (unhide V5).at (o := 6) (v := .map (some me)) rfl
    have dz := (unhide V5).lt
    have ev5 := hide (show (updK M u (.chan (some w.heap.size)) u).getD (.chan none) = .chan (some w.heap.size) by simp [updK])
    have hmk := mkCh
    rw [hW1] at hrun5
    clear b1 bd CH hk5 hg5 hW1
    go_enter Tryd.func66, Tryd.ntmps66
    go_wp2_with (at_lookup; refine wpList_look_km _ kStr rfl _ _ _ rfl _ Tryd.underlying66 (hz _) me n _ rfl (unhide HK) u rfl hu _ _ (unhide ev) (unhide er) ?_)
    go_region
    all_goals
      go_wp2_with (at_lookup; refine wpList_get_km _ kStr rfl _ _ _ rfl _ Tryd.underlying66 (hz _) me (n + 1) _ rfl (unhide K5) u rfl hu _ (unhide ev5) ?_)
      go_ret
      exact ⟨w.heap.size, rfl, .inr ⟨unhide HM, Nat.le_refl _, unhide CH5, unhide K5, unhide B5⟩⟩
end Go.Proofs.YtppkgcedkdeccaaDoor
/- Sessions: the form of an event, by the program. -/
namespace Go.Proofs.YtppkgcedkdeccaaDoor
set_option linter.unusedSimpArgs false
set_option linter.unusedVariables false
set_option maxRecDepth 20000
open Go.RowKit Go.Maps

set_option maxHeartbeats 4000000 in
theorem form_time (k t : Int) (u d i : ByteArray) (w : World) (hu : u.size ≤ maxLen) (hd : d.size ≤ maxLen) (ht : ¬ (0 ≤ t ∧ t ≤ 100000000000)) :
    Calls Tryd.prog 57 #[.agg #[.int .i64 k, .int .i64 t, .string u, .string d, .string i]] w fun e w' => Said e (fitE k t u d i) w w' := by
  obtain ⟨W2, hW2⟩ : ∃ W, W = w.alloc (.cells #[.int .i64 k, .int .i64 t, .string u, .string d, .string i] 34) := ⟨_, rfl⟩
  have b2 : Below w.heap.size w W2 := by rw [hW2]; exact bAl (Below.refl _ _) _
  have RE := hide (show RowIs W2 w.heap.size #[.int .i64 k, .int .i64 t, .string u, .string d, .string i] 34 by rw [hW2]; exact RowIs.new _ _ _)
  have HB := hide b2
  have HW := hide hW2.symm
  clear hW2 b2
  have qb := hide (bet_any 0 t 100000000000 W2)
  have e0 := (unhide RE).at (o := 0) (v := .int .i64 k) rfl
  have e1 := (unhide RE).at (o := 1) (v := .int .i64 t) rfl
  have e2 := (unhide RE).at (o := 2) (v := .string u) rfl
  have e3 := (unhide RE).at (o := 3) (v := .string d) rfl
  have e4 := (unhide RE).at (o := 4) (v := .string i) rfl
  have ez := (unhide RE).lt
  rw [decide_eq_false ht] at qb
  rw [fit_time ht]
  clear ht
  go_enter Tryd.func57, Tryd.ntmps57
  go_upto_region 1 with fail
  refine wp_world (unhide HW) ?_
  go_wp2_with fail
  refine (unhide qb).mono ?_
  rintro e w1 ⟨rfl, rfl⟩
  go_wp2_with fail
  go_ret
  exact ⟨rfl, unhide HB⟩
set_option maxHeartbeats 4000000 in
theorem form_kind (k t : Int) (u d i : ByteArray) (w : World) (hu : u.size ≤ maxLen) (hd : d.size ≤ maxLen) (ht : 0 ≤ t ∧ t ≤ 100000000000) (h1 : ¬ k = 1) (h2 : ¬ k = 2) (h3 : ¬ k = 3) (h4 : ¬ k = 4) (h5 : ¬ k = 5) :
    Calls Tryd.prog 57 #[.agg #[.int .i64 k, .int .i64 t, .string u, .string d, .string i]] w fun e w' => Said e (fitE k t u d i) w w' := by
  obtain ⟨W2, hW2⟩ : ∃ W, W = w.alloc (.cells #[.int .i64 k, .int .i64 t, .string u, .string d, .string i] 34) := ⟨_, rfl⟩
  have b2 : Below w.heap.size w W2 := by rw [hW2]; exact bAl (Below.refl _ _) _
  have RE := hide (show RowIs W2 w.heap.size #[.int .i64 k, .int .i64 t, .string u, .string d, .string i] 34 by rw [hW2]; exact RowIs.new _ _ _)
  have HB := hide b2
  have HW := hide hW2.symm
  clear hW2 b2
  have qb := hide (bet_any 0 t 100000000000 W2)
  have e0 := (unhide RE).at (o := 0) (v := .int .i64 k) rfl
  have e1 := (unhide RE).at (o := 1) (v := .int .i64 t) rfl
  have e2 := (unhide RE).at (o := 2) (v := .string u) rfl
  have e3 := (unhide RE).at (o := 3) (v := .string d) rfl
  have e4 := (unhide RE).at (o := 4) (v := .string i) rfl
  have ez := (unhide RE).lt
  rw [decide_eq_true ht] at qb
  rw [fit_kind (by omega)]
  clear ht
  have n1 : (k == 1) = false := by simpa using h1
  have n2 : (k == 2) = false := by simpa using h2
  have n3 : (k == 3) = false := by simpa using h3
  have n4 : (k == 4) = false := by simpa using h4
  have n5 : (k == 5) = false := by simpa using h5
  go_enter Tryd.func57, Tryd.ntmps57
  go_upto_region 1 with fail
  refine wp_world (unhide HW) ?_
  go_wp2_with fail
  refine (unhide qb).mono ?_
  rintro e w1 ⟨rfl, rfl⟩
  go_wp2_with fail
  go_ret
  exact ⟨rfl, unhide HB⟩
set_option maxHeartbeats 4000000 in
theorem form_1 (t : Int) (u d i : ByteArray) (w : World) (hu : u.size ≤ maxLen) (hd : d.size ≤ maxLen) (ht : 0 ≤ t ∧ t ≤ 100000000000) :
    Calls Tryd.prog 57 #[.agg #[.int .i64 1, .int .i64 t, .string u, .string d, .string i]] w fun e w' => Said e (fitE 1 t u d i) w w' := by
  obtain ⟨W2, hW2⟩ : ∃ W, W = w.alloc (.cells #[.int .i64 1, .int .i64 t, .string u, .string d, .string i] 34) := ⟨_, rfl⟩
  have b2 : Below w.heap.size w W2 := by rw [hW2]; exact bAl (Below.refl _ _) _
  have RE := hide (show RowIs W2 w.heap.size #[.int .i64 1, .int .i64 t, .string u, .string d, .string i] 34 by rw [hW2]; exact RowIs.new _ _ _)
  have HB := hide b2
  have HW := hide hW2.symm
  clear hW2 b2
  have qb := hide (bet_any 0 t 100000000000 W2)
  have e0 := (unhide RE).at (o := 0) (v := .int .i64 1) rfl
  have e1 := (unhide RE).at (o := 1) (v := .int .i64 t) rfl
  have e2 := (unhide RE).at (o := 2) (v := .string u) rfl
  have e3 := (unhide RE).at (o := 3) (v := .string d) rfl
  have e4 := (unhide RE).at (o := 4) (v := .string i) rfl
  have ez := (unhide RE).lt
  rw [decide_eq_true ht] at qb
  rw [fit_1 ht]
  clear ht
  go_enter Tryd.func57, Tryd.ntmps57
  go_upto_region 1 with fail
  refine wp_world (unhide HW) ?_
  go_wp2_with fail
  refine (unhide qb).mono ?_
  rintro e w1 ⟨rfl, rfl⟩
  go_wp2_with fail
  refine (iGoodName_any u hu _).mono ?_
  rintro e w2 ⟨rfl, hb2⟩
  replace RE := hide ((unhide RE).keep hb2)
  replace HB := hide (bTr (unhide HB) hb2)
  clear hb2 e0 e1 e2 e3 e4 ez
  have e0 := (unhide RE).at (o := 0) (v := .int .i64 1) rfl
  have e1 := (unhide RE).at (o := 1) (v := .int .i64 t) rfl
  have e2 := (unhide RE).at (o := 2) (v := .string u) rfl
  have e3 := (unhide RE).at (o := 3) (v := .string d) rfl
  have e4 := (unhide RE).at (o := 4) (v := .string i) rfl
  have ez := (unhide RE).lt
  cases hgu : goodName u with
  | false =>
    go_wp2_with fail
    go_ret
    exact ⟨by simp [emp, hgu], unhide HB⟩
  | true =>
    go_wp2_with fail
    refine (iGoodName_any d hd _).mono ?_
    rintro e w3 ⟨rfl, hb3⟩
    replace RE := hide ((unhide RE).keep hb3)
    replace HB := hide (bTr (unhide HB) hb3)
    clear hb3 e0 e1 e2 e3 e4 ez
    have e0 := (unhide RE).at (o := 0) (v := .int .i64 1) rfl
    have e1 := (unhide RE).at (o := 1) (v := .int .i64 t) rfl
    have e2 := (unhide RE).at (o := 2) (v := .string u) rfl
    have e3 := (unhide RE).at (o := 3) (v := .string d) rfl
    have e4 := (unhide RE).at (o := 4) (v := .string i) rfl
    have ez := (unhide RE).lt
    cases hgd : goodName d with
    | false =>
      go_wp2_with fail
      go_ret
      exact ⟨by simp [emp, hgu, hgd], unhide HB⟩
    | true =>
      cases hii : (i.toList == [])
      all_goals
        go_wp2_with fail
        go_ret
        exact ⟨by simp [emp, hgu, hgd, hii], unhide HB⟩
set_option maxHeartbeats 4000000 in
theorem form_5 (t : Int) (u d i : ByteArray) (w : World) (hu : u.size ≤ maxLen) (hd : d.size ≤ maxLen) (ht : 0 ≤ t ∧ t ≤ 100000000000) :
    Calls Tryd.prog 57 #[.agg #[.int .i64 5, .int .i64 t, .string u, .string d, .string i]] w fun e w' => Said e (fitE 5 t u d i) w w' := by
  obtain ⟨W2, hW2⟩ : ∃ W, W = w.alloc (.cells #[.int .i64 5, .int .i64 t, .string u, .string d, .string i] 34) := ⟨_, rfl⟩
  have b2 : Below w.heap.size w W2 := by rw [hW2]; exact bAl (Below.refl _ _) _
  have RE := hide (show RowIs W2 w.heap.size #[.int .i64 5, .int .i64 t, .string u, .string d, .string i] 34 by rw [hW2]; exact RowIs.new _ _ _)
  have HB := hide b2
  have HW := hide hW2.symm
  clear hW2 b2
  have qb := hide (bet_any 0 t 100000000000 W2)
  have e0 := (unhide RE).at (o := 0) (v := .int .i64 5) rfl
  have e1 := (unhide RE).at (o := 1) (v := .int .i64 t) rfl
  have e2 := (unhide RE).at (o := 2) (v := .string u) rfl
  have e3 := (unhide RE).at (o := 3) (v := .string d) rfl
  have e4 := (unhide RE).at (o := 4) (v := .string i) rfl
  have ez := (unhide RE).lt
  rw [decide_eq_true ht] at qb
  rw [fit_5 ht]
  clear ht
  go_enter Tryd.func57, Tryd.ntmps57
  go_upto_region 1 with fail
  refine wp_world (unhide HW) ?_
  go_wp2_with fail
  refine (unhide qb).mono ?_
  rintro e w1 ⟨rfl, rfl⟩
  go_wp2_with fail
  refine (iGoodName_any u hu _).mono ?_
  rintro e w2 ⟨rfl, hb2⟩
  replace RE := hide ((unhide RE).keep hb2)
  replace HB := hide (bTr (unhide HB) hb2)
  clear hb2 e0 e1 e2 e3 e4 ez
  have e0 := (unhide RE).at (o := 0) (v := .int .i64 5) rfl
  have e1 := (unhide RE).at (o := 1) (v := .int .i64 t) rfl
  have e2 := (unhide RE).at (o := 2) (v := .string u) rfl
  have e3 := (unhide RE).at (o := 3) (v := .string d) rfl
  have e4 := (unhide RE).at (o := 4) (v := .string i) rfl
  have ez := (unhide RE).lt
  cases hgu : goodName u with
  | false =>
    go_wp2_with fail
    go_ret
    exact ⟨by simp [emp, hgu], unhide HB⟩
  | true =>
    cases hid : (d.toList == []) <;> cases hii : (i.toList == [])
    all_goals
      go_wp2_with fail
      go_ret
      exact ⟨by simp [emp, hgu, hid, hii], unhide HB⟩
set_option maxHeartbeats 4000000 in
theorem form_2 (t : Int) (u d i : ByteArray) (w : World) (hu : u.size ≤ maxLen) (hd : d.size ≤ maxLen) (ht : 0 ≤ t ∧ t ≤ 100000000000) :
    Calls Tryd.prog 57 #[.agg #[.int .i64 2, .int .i64 t, .string u, .string d, .string i]] w fun e w' => Said e (fitE 2 t u d i) w w' := by
  obtain ⟨W2, hW2⟩ : ∃ W, W = w.alloc (.cells #[.int .i64 2, .int .i64 t, .string u, .string d, .string i] 34) := ⟨_, rfl⟩
  have b2 : Below w.heap.size w W2 := by rw [hW2]; exact bAl (Below.refl _ _) _
  have RE := hide (show RowIs W2 w.heap.size #[.int .i64 2, .int .i64 t, .string u, .string d, .string i] 34 by rw [hW2]; exact RowIs.new _ _ _)
  have HB := hide b2
  have HW := hide hW2.symm
  clear hW2 b2
  have qb := hide (bet_any 0 t 100000000000 W2)
  have e0 := (unhide RE).at (o := 0) (v := .int .i64 2) rfl
  have e1 := (unhide RE).at (o := 1) (v := .int .i64 t) rfl
  have e2 := (unhide RE).at (o := 2) (v := .string u) rfl
  have e3 := (unhide RE).at (o := 3) (v := .string d) rfl
  have e4 := (unhide RE).at (o := 4) (v := .string i) rfl
  have ez := (unhide RE).lt
  rw [decide_eq_true ht] at qb
  rw [fit_m ht (by omega)]
  clear ht
  cases hiu : (u.toList == []) with
  | false =>
    go_enter Tryd.func57, Tryd.ntmps57
    go_upto_region 1 with fail
    refine wp_world (unhide HW) ?_
    go_wp2_with fail
    refine (unhide qb).mono ?_
    rintro e w1 ⟨rfl, rfl⟩
    go_wp2_with fail
    go_ret
    exact ⟨by simp [emp, hiu], unhide HB⟩
  | true =>
    go_enter Tryd.func57, Tryd.ntmps57
    go_upto_region 1 with fail
    refine wp_world (unhide HW) ?_
    go_wp2_with fail
    refine (unhide qb).mono ?_
    rintro e w1 ⟨rfl, rfl⟩
    go_wp2_with fail
    refine (iGoodName_any d hd _).mono ?_
    rintro e w2 ⟨rfl, hb2⟩
    replace RE := hide ((unhide RE).keep hb2)
    replace HB := hide (bTr (unhide HB) hb2)
    clear hb2 e0 e1 e2 e3 e4 ez
    have e0 := (unhide RE).at (o := 0) (v := .int .i64 2) rfl
    have e1 := (unhide RE).at (o := 1) (v := .int .i64 t) rfl
    have e2 := (unhide RE).at (o := 2) (v := .string u) rfl
    have e3 := (unhide RE).at (o := 3) (v := .string d) rfl
    have e4 := (unhide RE).at (o := 4) (v := .string i) rfl
    have ez := (unhide RE).lt
    cases hgd : goodName d
    all_goals
      go_wp2_with fail
      go_ret
      exact ⟨by simp [emp, hiu, hgd], unhide HB⟩
set_option maxHeartbeats 4000000 in
theorem form_3 (t : Int) (u d i : ByteArray) (w : World) (hu : u.size ≤ maxLen) (hd : d.size ≤ maxLen) (ht : 0 ≤ t ∧ t ≤ 100000000000) :
    Calls Tryd.prog 57 #[.agg #[.int .i64 3, .int .i64 t, .string u, .string d, .string i]] w fun e w' => Said e (fitE 3 t u d i) w w' := by
  obtain ⟨W2, hW2⟩ : ∃ W, W = w.alloc (.cells #[.int .i64 3, .int .i64 t, .string u, .string d, .string i] 34) := ⟨_, rfl⟩
  have b2 : Below w.heap.size w W2 := by rw [hW2]; exact bAl (Below.refl _ _) _
  have RE := hide (show RowIs W2 w.heap.size #[.int .i64 3, .int .i64 t, .string u, .string d, .string i] 34 by rw [hW2]; exact RowIs.new _ _ _)
  have HB := hide b2
  have HW := hide hW2.symm
  clear hW2 b2
  have qb := hide (bet_any 0 t 100000000000 W2)
  have e0 := (unhide RE).at (o := 0) (v := .int .i64 3) rfl
  have e1 := (unhide RE).at (o := 1) (v := .int .i64 t) rfl
  have e2 := (unhide RE).at (o := 2) (v := .string u) rfl
  have e3 := (unhide RE).at (o := 3) (v := .string d) rfl
  have e4 := (unhide RE).at (o := 4) (v := .string i) rfl
  have ez := (unhide RE).lt
  rw [decide_eq_true ht] at qb
  rw [fit_m ht (by omega)]
  clear ht
  cases hiu : (u.toList == []) with
  | false =>
    go_enter Tryd.func57, Tryd.ntmps57
    go_upto_region 1 with fail
    refine wp_world (unhide HW) ?_
    go_wp2_with fail
    refine (unhide qb).mono ?_
    rintro e w1 ⟨rfl, rfl⟩
    go_wp2_with fail
    go_ret
    exact ⟨by simp [emp, hiu], unhide HB⟩
  | true =>
    go_enter Tryd.func57, Tryd.ntmps57
    go_upto_region 1 with fail
    refine wp_world (unhide HW) ?_
    go_wp2_with fail
    refine (unhide qb).mono ?_
    rintro e w1 ⟨rfl, rfl⟩
    go_wp2_with fail
    refine (iGoodName_any d hd _).mono ?_
    rintro e w2 ⟨rfl, hb2⟩
    replace RE := hide ((unhide RE).keep hb2)
    replace HB := hide (bTr (unhide HB) hb2)
    clear hb2 e0 e1 e2 e3 e4 ez
    have e0 := (unhide RE).at (o := 0) (v := .int .i64 3) rfl
    have e1 := (unhide RE).at (o := 1) (v := .int .i64 t) rfl
    have e2 := (unhide RE).at (o := 2) (v := .string u) rfl
    have e3 := (unhide RE).at (o := 3) (v := .string d) rfl
    have e4 := (unhide RE).at (o := 4) (v := .string i) rfl
    have ez := (unhide RE).lt
    cases hgd : goodName d
    all_goals
      go_wp2_with fail
      go_ret
      exact ⟨by simp [emp, hiu, hgd], unhide HB⟩
set_option maxHeartbeats 4000000 in
theorem form_4 (t : Int) (u d i : ByteArray) (w : World) (hu : u.size ≤ maxLen) (hd : d.size ≤ maxLen) (ht : 0 ≤ t ∧ t ≤ 100000000000) :
    Calls Tryd.prog 57 #[.agg #[.int .i64 4, .int .i64 t, .string u, .string d, .string i]] w fun e w' => Said e (fitE 4 t u d i) w w' := by
  obtain ⟨W2, hW2⟩ : ∃ W, W = w.alloc (.cells #[.int .i64 4, .int .i64 t, .string u, .string d, .string i] 34) := ⟨_, rfl⟩
  have b2 : Below w.heap.size w W2 := by rw [hW2]; exact bAl (Below.refl _ _) _
  have RE := hide (show RowIs W2 w.heap.size #[.int .i64 4, .int .i64 t, .string u, .string d, .string i] 34 by rw [hW2]; exact RowIs.new _ _ _)
  have HB := hide b2
  have HW := hide hW2.symm
  clear hW2 b2
  have qb := hide (bet_any 0 t 100000000000 W2)
  have e0 := (unhide RE).at (o := 0) (v := .int .i64 4) rfl
  have e1 := (unhide RE).at (o := 1) (v := .int .i64 t) rfl
  have e2 := (unhide RE).at (o := 2) (v := .string u) rfl
  have e3 := (unhide RE).at (o := 3) (v := .string d) rfl
  have e4 := (unhide RE).at (o := 4) (v := .string i) rfl
  have ez := (unhide RE).lt
  rw [decide_eq_true ht] at qb
  rw [fit_m ht (by omega)]
  clear ht
  cases hiu : (u.toList == []) with
  | false =>
    go_enter Tryd.func57, Tryd.ntmps57
    go_upto_region 1 with fail
    refine wp_world (unhide HW) ?_
    go_wp2_with fail
    refine (unhide qb).mono ?_
    rintro e w1 ⟨rfl, rfl⟩
    go_wp2_with fail
    go_ret
    exact ⟨by simp [emp, hiu], unhide HB⟩
  | true =>
    go_enter Tryd.func57, Tryd.ntmps57
    go_upto_region 1 with fail
    refine wp_world (unhide HW) ?_
    go_wp2_with fail
    refine (unhide qb).mono ?_
    rintro e w1 ⟨rfl, rfl⟩
    go_wp2_with fail
    refine (iGoodName_any d hd _).mono ?_
    rintro e w2 ⟨rfl, hb2⟩
    replace RE := hide ((unhide RE).keep hb2)
    replace HB := hide (bTr (unhide HB) hb2)
    clear hb2 e0 e1 e2 e3 e4 ez
    have e0 := (unhide RE).at (o := 0) (v := .int .i64 4) rfl
    have e1 := (unhide RE).at (o := 1) (v := .int .i64 t) rfl
    have e2 := (unhide RE).at (o := 2) (v := .string u) rfl
    have e3 := (unhide RE).at (o := 3) (v := .string d) rfl
    have e4 := (unhide RE).at (o := 4) (v := .string i) rfl
    have ez := (unhide RE).lt
    cases hgd : goodName d
    all_goals
      go_wp2_with fail
      go_ret
      exact ⟨by simp [emp, hiu, hgd], unhide HB⟩
theorem form_any (k t : Int) (u d i : ByteArray) (w : World) (hu : u.size ≤ maxLen) (hd : d.size ≤ maxLen) :
    Calls Tryd.prog 57 #[.agg #[.int .i64 k, .int .i64 t, .string u, .string d, .string i]] w fun e w' => Said e (fitE k t u d i) w w' := by
  by_cases ht : 0 ≤ t ∧ t ≤ 100000000000
  rotate_left
  · exact form_time k t u d i w hu hd ht
  by_cases h1 : k = 1
  · subst h1; exact form_1 t u d i w hu hd ht
  by_cases h2 : k = 2
  · subst h2; exact form_2 t u d i w hu hd ht
  by_cases h3 : k = 3
  · subst h3; exact form_3 t u d i w hu hd ht
  by_cases h4 : k = 4
  · subst h4; exact form_4 t u d i w hu hd ht
  by_cases h5 : k = 5
  · subst h5; exact form_5 t u d i w hu hd ht
  · exact form_kind k t u d i w hu hd ht h1 h2 h3 h4 h5
end Go.Proofs.YtppkgcedkdeccaaDoor
