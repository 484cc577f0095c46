/- impl.changeLog's take, impl.changeLogOf. -/
import Derived.Test.YtpdnimchmgbijaaQMapS
import Derived.Test.YtpdnimchmgbijaaQChR
namespace Go.Proofs.Ytpdnimchmgbijaa
open Go.RowKit Go.Maps

/-- All blocks but b1 and b2 are as they were. -/
structure Kept2 (b1 b2 : Nat) (w w' : World) : Prop where
  os : w'.os = w.os
  tape : w'.tape = w.tape
  output : w'.output = w.output
  size : w.heap.size ≤ w'.heap.size
  block : ∀ k, k < w.heap.size → k ≠ b1 → k ≠ b2 → w'.heap[k]? = w.heap[k]?
theorem Kept2.refl (b1 b2 : Nat) (w : World) : Kept2 b1 b2 w w := ⟨rfl, rfl, rfl, Nat.le_refl _, fun _ _ _ _ => rfl⟩
theorem Kept2.trans {b1 b2 : Nat} {a b c : World} (h : Kept2 b1 b2 a b) (k : Kept2 b1 b2 b c) : Kept2 b1 b2 a c :=
  ⟨k.os.trans h.os, k.tape.trans h.tape, k.output.trans h.output, Nat.le_trans h.size k.size, fun i hi h1 h2 => (k.block i (Nat.lt_of_lt_of_le hi h.size) h1 h2).trans (h.block i hi h1 h2)⟩
theorem Kept2.alloc (b1 b2 : Nat) (w : World) (o : Obj) : Kept2 b1 b2 w (w.alloc o) := ⟨rfl, rfl, rfl, by simp, fun k hk _ _ => Below.heap_alloc _ _ _ hk⟩
theorem Kept2.g1 {b1 b2 : Nat} {w w' : World} (h : w.grownBy w' (some b1)) : Kept2 b1 b2 w w' := ⟨h.os, h.tape, h.output, h.size, fun k hk h1 _ => h.block k hk (by simpa using h1)⟩
theorem Kept2.g2 {b1 b2 : Nat} {w w' : World} (h : w.grownBy w' (some b2)) : Kept2 b1 b2 w w' := ⟨h.os, h.tape, h.output, h.size, fun k hk _ h2 => h.block k hk (by simpa using h2)⟩
theorem Kept2.row {b1 b2 b : Nat} {w w' : World} {C : Array Value} {T : TypeId} (h : Kept2 b1 b2 w w') (hr : RowIs w b C T) (h1 : b ≠ b1) (h2 : b ≠ b2) : RowIs w' b C T := by
  have hl := hr.lt
  unfold RowIs at *; rw [h.block b hl h1 h2]; exact hr
theorem Kept2.below {b1 b2 B : Nat} {a w w' : World} (h : Kept2 b1 b2 w w') (hb : Below B a w) (hB : B ≤ w.heap.size) (h1 : B ≤ b1) (h2 : B ≤ b2) : Below B a w' :=
  hb.trans ⟨h.os, h.tape, h.output, h.size, fun k hk => h.block k (by omega) (by omega) (by omega)⟩

theorem VecM.setCell {w : World} {b n : Nat} {tv : Int → Int} (h : VecM w b n tv) (b' o' : Nat) (hne : b ≠ b') (u : Value) : VecM (w.setCell ⟨b', o', none⟩ u) b n tv := by
  obtain ⟨D, ho, hD⟩ := h; exact ⟨D, ho.setCell hne u, hD⟩

/-- What the vector has of the first k changes. -/
structure TvIs (l : List DcT) (k : Nat) (tv : Int → Int) : Prop where
  pos : ∀ a, 0 ≤ tv a
  up : ∀ i (h : i < l.length), i < k → l[i].t ≤ tv l[i].o
  one : ∀ a, tv a = 0 ∨ ∃ i, ∃ h : i < l.length, i < k ∧ tv a = l[i].t ∧ l[i].o = a
theorem TvIs.start (l : List DcT) : TvIs l 0 (fun _ => 0) := ⟨fun _ => Int.le_refl _, fun _ _ h => absurd h (Nat.not_lt_zero _), fun _ => .inl rfl⟩
theorem TvIs.skip {l : List DcT} {k : Nat} {tv : Int → Int} (h : TvIs l k tv) (hk : k < l.length) (hle : l[k].t ≤ tv l[k].o) : TvIs l (k + 1) tv :=
  ⟨h.pos, fun i hi hik => by
    rcases Nat.lt_or_ge i k with h1 | h1
    · exact h.up i hi h1
    · obtain rfl : i = k := by omega
      exact hle, fun a => by
    rcases h.one a with h1 | ⟨i, hi, h1, h2⟩
    · exact .inl h1
    · exact .inr ⟨i, hi, by omega, h2⟩⟩
theorem TvIs.step {l : List DcT} {k : Nat} {tv : Int → Int} (h : TvIs l k tv) (hk : k < l.length) : TvIs l (k + 1) (upd tv l[k].o l[k].t) :=
  ⟨fun a => Int.le_trans (h.pos a) (upd_le tv _ _ a), fun i hi hik => by
    rcases Nat.lt_or_ge i k with h1 | h1
    · exact Int.le_trans (h.up i hi h1) (upd_le tv _ _ _)
    · obtain rfl : i = k := by omega
      rw [upd_same]; omega, fun a => by
    by_cases e : a = l[k].o
    · subst e
      rw [upd_same]
      rcases Int.le_total (tv l[k].o) l[k].t with h1 | h1
      · exact .inr ⟨k, hk, by omega, by omega, rfl⟩
      · rcases h.one l[k].o with h2 | ⟨i, hi, h2, h3, h4⟩
        · exact .inl (by omega)
        · exact .inr ⟨i, hi, by omega, by omega, h4⟩
    · rw [upd_other tv e]
      rcases h.one a with h1 | ⟨i, hi, h1, h2⟩
      · exact .inl h1
      · exact .inr ⟨i, hi, by omega, h2⟩⟩

set_option maxRecDepth 100000 in
set_option maxHeartbeats 1000000 in
theorem take_any (bv bc : Nat) (a : Option Addr) (len cap : Nat) (l : List DcT) (w0 W : World) (hB : Below w0.heap.size w0 W) (h1 : w0.heap.size ≤ bv) (h2 : w0.heap.size ≤ bc) (hne : bv ≠ bc)
    (hv : VecM W bv 0 (fun _ => 0)) (hc : ChM W bc 0 (fun _ => 0)) (hl : len ≤ 1000000) (hs : SlC w0 a len l) (hok : ∀ i (h : i < l.length), (okI l[i].t ∧ 0 < l[i].t) ∧ okI l[i].o) :
    Calls Try.prog 20 #[.agg #[.map (some bv), .map (some bc)], .slice a len cap] W fun e w' => e = .returned (.tuple #[]) ∧ Kept2 bv bc W w' ∧ ∃ tv, VecM w' bv len tv ∧ TvIs l len tv := by
  have hb9 := hv.lt
  have hc9 := hc.lt
  obtain ⟨W1, hW1⟩ : ∃ W', W' = W.alloc (.cells #[.map (some bv), .map (some bc)] 52) := ⟨_, rfl⟩
  have k1 : Kept2 bv bc W W1 := by rw [hW1]; exact Kept2.alloc _ _ _ _
  have HK1 := hide k1
  have HR := hide (show RowIs W1 W.heap.size #[.map (some bv), .map (some bc)] 52 by rw [hW1]; exact RowIs.new _ _ _)
  have HB := hide (k1.below hB hB.size h1 h2)
  have hz1 : w0.heap.size ≤ W1.heap.size := (unhide HB).size
  have HV := hide (show VecM W1 bv 0 (fun _ => 0) by rw [hW1]; exact hv.kept (World.grownBy_alloc _ _ none) (by simp))
  have HC := hide (show ChM W1 bc 0 (fun _ => 0) by rw [hW1]; exact hc.kept (World.grownBy_alloc _ _ none) (by simp))
  have HW1 := hide hW1
  have HS := hide hs
  have HO := hide hok
  have nb : W.heap.size ≠ bv := by omega
  have nc : W.heap.size ≠ bc := by omega
  have NN := hide (And.intro nb nc)
  have NE := hide (And.intro hne (And.intro h1 h2))
  clear k1 hW1 hB hv hc hs hok nb nc hne h1 h2 hb9 hc9
  go_enter Try.func20, Try.ntmps20
  go_wp2_with fail
  rw [← unhide HW1]
  go_loopw [10] (fun i wr => ∃ (k : Nat) (tv : Int → Int), k ≤ len ∧ i = .int .i64 k ∧ Hid (VecM wr bv k tv) ∧ Hid (ChM wr bc k tv) ∧ Hid (TvIs l k tv) ∧ Hid (Kept2 bv bc W1 wr)) (fun i _ => len - (intOf i).toNat)
  case atStart => exact ⟨0, _, Nat.zero_le _, rfl, HV, HC, hide (TvIs.start l), hide (Kept2.refl _ _ _)⟩
  case round =>
    clear HV HC
    obtain ⟨k, tv, hk, rfl, hV, hC, hT, hK⟩ := hrel
    by_cases hlt : k < len
    · have KB := (unhide hK).below (unhide HB) hz1 (unhide NE).2.1 (unhide NE).2.2
      obtain ⟨b, off, rfl, hrow⟩ := ((unhide HS).keep KB).at hlt
      have hk' : k < l.length := by rw [← (unhide HS).1]; exact hlt
      have c0 := hrow.c0 k hk'
      have c1 := hrow.c1 k hk'
      have c2 := hrow.c2 k hk'
      have c3 := hrow.c3 k hk'
      have c4 := hrow.c4 k hk'
      have c5 := hrow.c5 k hk'
      have c6 := hrow.c6 k hk'
      have c7 := hrow.c7 k hk'
      have c8 := hrow.c8 k hk'
      have hR := (unhide hK).row (unhide HR) (unhide NN).1 (unhide NN).2
      have r0 := hR.at (o := 0) (v := .map (some bv)) rfl
      have r1 := hR.at (o := 1) (v := .map (some bc)) rfl
      have zz := hR.lt
      have ho := unhide HO k hk'
      have eS := hide ((unhide hT).step hk')
      have eK := hide (fun hle => (unhide hT).skip hk' hle)
      clear hrow KB
      generalize l[k] = A at c0 c1 c2 c3 c4 c5 c6 c7 c8 ho eS eK
      have HT := hide ho.1.1
      have HT0 := hide ho.1.2
      have HS9 := hide ho.2
      have HA := hide (show ChM (wr.alloc (.cells #[.int .i64 A.t, .int .i64 A.o, .int .i64 A.k, .int .i64 A.u, .int .i64 A.p, .string A.pa, .string A.pt, .string A.a, .string A.x] 46)) bc k tv from (unhide hC).kept (World.grownBy_alloc _ _ none) (by simp))
      have HA2 := hide (show ∀ o2, ChM ((wr.alloc (.cells #[.int .i64 A.t, .int .i64 A.o, .int .i64 A.k, .int .i64 A.u, .int .i64 A.p, .string A.pa, .string A.pt, .string A.a, .string A.x] 46)).alloc o2) bc k tv from fun o2 => (unhide HA).kept (World.grownBy_alloc _ _ none) (by simp))
      have HV2 := hide (show ∀ o2, VecM ((wr.alloc (.cells #[.int .i64 A.t, .int .i64 A.o, .int .i64 A.k, .int .i64 A.u, .int .i64 A.p, .string A.pa, .string A.pt, .string A.a, .string A.x] 46)).alloc o2) bv k tv from fun o2 => ((unhide hV).kept (World.grownBy_alloc _ _ none) (by simp)).kept (World.grownBy_alloc _ _ none) (by simp))
      have HK2 := hide (show ∀ o2, Kept2 bv bc W1 ((wr.alloc (.cells #[.int .i64 A.t, .int .i64 A.o, .int .i64 A.k, .int .i64 A.u, .int .i64 A.p, .string A.pa, .string A.pt, .string A.a, .string A.x] 46)).alloc o2) from fun o2 => ((unhide hK).trans (Kept2.alloc _ _ _ _)).trans (Kept2.alloc _ _ _ _))
      have FX := hide (show ∀ o2 w1, ((wr.alloc (.cells #[.int .i64 A.t, .int .i64 A.o, .int .i64 A.k, .int .i64 A.u, .int .i64 A.p, .string A.pa, .string A.pt, .string A.a, .string A.x] 46)).alloc o2).grownBy w1 (some bc) →
          (w1.cell? ⟨W.heap.size, 0, none⟩ = some (.map (some bv)) ∧ w1.cell? ⟨wr.heap.size, 0, none⟩ = some (.int .i64 A.t) ∧ w1.cell? ⟨wr.heap.size, 1, none⟩ = some (.int .i64 A.o)) ∧ VecM w1 bv k tv ∧ Kept2 bv bc W1 w1 from fun o2 w1 hg => by
        have e1 := (unhide hC).lt
        have e2 := (unhide hV).lt
        have K2 : Kept2 bv bc ((wr.alloc (.cells #[.int .i64 A.t, .int .i64 A.o, .int .i64 A.k, .int .i64 A.u, .int .i64 A.p, .string A.pa, .string A.pt, .string A.a, .string A.x] 46)).alloc o2) w1 := Kept2.g2 hg
        have RX : RowIs ((wr.alloc (.cells #[.int .i64 A.t, .int .i64 A.o, .int .i64 A.k, .int .i64 A.u, .int .i64 A.p, .string A.pa, .string A.pt, .string A.a, .string A.x] 46)).alloc o2) wr.heap.size #[.int .i64 A.t, .int .i64 A.o, .int .i64 A.k, .int .i64 A.u, .int .i64 A.p, .string A.pa, .string A.pt, .string A.a, .string A.x] 46 := (RowIs.new wr _ _).keep (bAl (Below.refl _ _) _)
        have RX1 := K2.row RX (by omega) (by omega)
        have R1 := ((unhide HK2 o2).trans K2).row (unhide HR) (unhide NN).1 (unhide NN).2
        exact ⟨⟨R1.at rfl, RX1.at rfl, RX1.at rfl⟩, (unhide HV2 o2).kept hg (by have := (unhide NE).1; simpa using this), (unhide HK2 o2).trans K2⟩)
      clear ho hR
      go_wp2_with (first
        | (at_lookup; refine wpList_look_ch _ rfl _ _ rfl bc k tv rfl (unhide HA) A.t A.o rfl (unhide HT) (unhide HS9) ?_; intro C r hr; have HRr := hide hr; clear hr)
        | (at_mapUpdate; refine wpList_put_ch _ rfl _ _ _ rfl bc k tv rfl (unhide HA2 _) (by unfold maxLen; omega) A.t A.o A rfl rfl (unhide HT) (unhide HS9) ?_; intro w1 hc1 hg1; have HC1 := hide hc1; obtain ⟨⟨x0, x1, x2⟩, hv1, hk1⟩ := unhide FX _ _ hg1; have HV1 := hide hv1; have HK3 := hide hk1; clear hc1 hg1 hv1 hk1))
      · refine (see_any bv k tv A.t A.o _ (unhide HV1) (by unfold maxLen; omega) (unhide HT) (unhide HS9) (unhide HT0)).mono ?_
        rintro e w2 ⟨rfl, hv2, hg2⟩
        have V9 := hide hv2
        have C9 := hide ((unhide HC1).kept hg2 (by have := (unhide NE).1; intro h; simp at h; omega))
        have K9 := hide ((unhide HK3).trans (Kept2.g1 hg2))
        clear hv2 hg2 HV1 HC1 HK3 x0 x1 x2
        go_wp2_with fail
        exact ⟨⟨k + 1, upd tv A.o A.t, by omega, by go_num, V9, C9, eS, K9⟩, by simp [intOf]; omega⟩
      · exact ⟨⟨k + 1, tv, by omega, by go_num, hide ((unhide HV2 _).more (by omega)), hide ((unhide HA2 _).more (by omega)), hide (unhide eK (unhide HRr (by simpa using (by assumption : (!r) = false)))), hide (unhide HK2 _)⟩, by simp [intOf]; omega⟩
    · obtain rfl : k = len := by omega
      go_wp2_with fail
      go_end0
      exact ⟨rfl, (unhide HK1).trans (unhide hK), tv, unhide hV, unhide hT⟩

set_option maxRecDepth 100000 in
set_option maxHeartbeats 1000000 in
theorem changeLogOf_any (a : Option Addr) (len cap : Nat) (l : List DcT) (w : World) (hl : len ≤ 1000000) (hs : SlC w a len l) (hok : ∀ i (h : i < l.length), (okI l[i].t ∧ 0 < l[i].t) ∧ okI l[i].o) :
    Calls Try.prog 18 #[.slice a len cap] w fun e w' => (∃ bv bc tv, e = .returned (.agg #[.map (some bv), .map (some bc)]) ∧ VecM w' bv len tv ∧ TvIs l len tv) ∧ Below w.heap.size w w' := by
  obtain ⟨W1, hW1⟩ : ∃ W, W = w.alloc (.cells #[.map none, .map none] 52) := ⟨_, rfl⟩
  obtain ⟨W2, hW2⟩ : ∃ W, W = W1.alloc (.map #[] 0) := ⟨_, rfl⟩
  obtain ⟨W3, hW3⟩ : ∃ W, W = W2.alloc (.map #[] 0) := ⟨_, rfl⟩
  obtain ⟨W4, hW4⟩ : ∃ W, W = W3.alloc (.cells #[.map (some (w.heap.size + 1)), .map (some (w.heap.size + 1 + 1))] 52) := ⟨_, rfl⟩
  have z1 : W1.heap.size = w.heap.size + 1 := by rw [hW1]; simp
  have z2 : W2.heap.size = w.heap.size + 1 + 1 := by rw [hW2]; simp; exact z1
  have z3 : W3.heap.size = w.heap.size + 1 + 1 + 1 := by rw [hW3]; simp; exact z2
  have b1 : Below w.heap.size w W1 := by rw [hW1]; exact bAl (Below.refl _ _) _
  have b2 : Below W1.heap.size W1 W2 := by rw [hW2]; exact bAl (Below.refl _ _) _
  have b3 : Below W2.heap.size W2 W3 := by rw [hW3]; exact bAl (Below.refl _ _) _
  have b4 : Below W3.heap.size W3 W4 := by rw [hW4]; exact bAl (Below.refl _ _) _
  have g3 : W2.grownBy W3 none := by rw [hW3]; exact World.grownBy_alloc _ _ _
  have g4 : W3.grownBy W4 none := by rw [hW4]; exact World.grownBy_alloc _ _ _
  have HV := hide (((show VecM W2 (w.heap.size + 1) 0 (fun _ => 0) by rw [hW2, ← z1]; exact VecM.made W1).kept g3 (by simp)).kept g4 (by simp))
  have HC := hide ((show ChM W3 (w.heap.size + 1 + 1) 0 (fun _ => 0) by rw [hW3, ← z2]; exact ChM.made W2 _).kept g4 (by simp))
  have HB := hide (bTr (bTr (bTr b1 b2) b3) b4)
  have HR := hide ((show RowIs W1 w.heap.size #[.map none, .map none] 52 by rw [hW1]; exact RowIs.new _ _ _).keep (bTr (bTr b2 b3) b4))
  have HL := hide (show RowIs W4 (w.heap.size + 1 + 1 + 1) #[.map (some (w.heap.size + 1)), .map (some (w.heap.size + 1 + 1))] 52 by rw [hW4, ← z3]; exact RowIs.new _ _ _)
  have HW := hide (show (((w.alloc (.cells #[.map none, .map none] 52)).alloc (.map #[] 0)).alloc (.map #[] 0)).alloc (.cells #[.map (some (w.heap.size + 1)), .map (some (w.heap.size + 1 + 1))] 52) = W4 by rw [hW4, hW3, hW2, hW1])
  have qt := hide (take_any (w.heap.size + 1) (w.heap.size + 1 + 1) a len cap l w W4 (unhide HB) (by omega) (by omega) (by omega) (unhide HV) (unhide HC) hl hs hok)
  clear hW1 hW2 hW3 hW4 z1 z2 z3 b1 b2 b3 b4 g3 g4 HV HC hs hok
  have hmm := @run_makeMap Try.prog
  go_enter Try.func18, Try.ntmps18
  go_wp2_with fail
  rw [unhide HW]
  clear HW hmm
  refine (unhide qt).mono ?_
  rintro e w5 ⟨rfl, hk, tv, hv, htv⟩
  have r1 := hk.row (unhide HR) (by omega) (by omega)
  have r2 := hk.row (unhide HL) (by omega) (by omega)
  have B5 := hide (hk.below (unhide HB) (unhide HB).size (by omega) (by omega))
  have V5 := hide hv
  have T5 := hide htv
  clear hk hv htv qt HR HL HB
  have f0 := r1.froz 0
  have f1 := r1.froz 1
  have j0 := r1.at (o := 0) (v := .map none) rfl
  have j1 := r1.at (o := 1) (v := .map none) rfl
  have d0 := r2.at (o := 0) (v := .map (some (w.heap.size + 1))) rfl
  have d1 := r2.at (o := 1) (v := .map (some (w.heap.size + 1 + 1))) rfl
  clear r1 r2
  go_wp2_with fail
  refine bodyPost_ret (v := .agg #[.map (some (w.heap.size + 1)), .map (some (w.heap.size + 1 + 1))]) (by simp [results, Try.results18, go_sem, j0, j1]) rfl ⟨⟨_, _, tv, rfl, ?_, unhide T5⟩, ?_⟩
  · exact ((unhide V5).setCell _ _ (by omega) _).setCell _ _ (by omega) _
  · exact bSet (bSet (unhide B5) _ _ (Nat.le_refl _) _) _ _ (Nat.le_refl _) _
end Go.Proofs.Ytpdnimchmgbijaa
