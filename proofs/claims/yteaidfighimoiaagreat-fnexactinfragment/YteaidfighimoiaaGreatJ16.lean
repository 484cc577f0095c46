/- YGro, YTk, one behind the other. -/
import Derived.Test.YteaidfighimoiaaGreatJ15
import Derived.BigRegion
/- impl.growExpr, exprOf, GoodExpr. -/
namespace Go.Proofs.YteaidfighimoiaaGreat.V
open Go.RowKit Go.Maps

theorem cellG {B : Nat} {W w' : World} {p : Addr} {v : Value} (hb : Below B W w') (hz : p.block < B) (hc : W.cell? p = some v) : w'.cell? p = some v := by
  rw [hb.cell hz]; exact hc
/-- A list lies below B, or is empty. -/
def InB (B : Nat) (a : Option Addr) (l : List ExprT) : Prop := l = [] ∨ ∃ b off, a = some ⟨b, off, none⟩ ∧ b < B
theorem SlExpr.keepB {B : Nat} {w w1 : World} {a : Option Addr} {len : Nat} {l : List ExprT} (h : SlExpr w a len l) (hI : InB B a l) (hb : Below B w w1) (hB : B ≤ w1.heap.size) : SlExpr w1 a len l :=
  ⟨h.1, by
    rcases h.2 with e | ⟨b, off, e, r⟩
    · exact .inl e
    · rcases hI with e' | ⟨b', off', e', hlt⟩
      · exact .inl e'
      · rw [e] at e'
        simp at e'
        obtain ⟨rfl, rfl⟩ := e'
        exact .inr ⟨b, off, e, ⟨by omega, fun i hi => cellG hb hlt (r.c0 i hi), fun i hi => cellG hb hlt (r.c1 i hi), fun i hi => cellG hb hlt (r.c2 i hi), fun i hi => cellG hb hlt (r.c3 i hi), fun i hi => cellG hb hlt (r.c4 i hi), fun i hi => cellG hb hlt (r.c5 i hi), fun i hi => cellG hb hlt (r.c6 i hi)⟩⟩⟩
theorem SlExpr.inB {w : World} {a : Option Addr} {len : Nat} {l : List ExprT} (h : SlExpr w a len l) : InB w.heap.size a l := by
  rcases h.2 with e | ⟨b, off, e, r⟩
  · exact .inl e
  · exact .inr ⟨b, off, e, r.z⟩
def GrowEnd (B : Nat) (w' : World) (r : Nat) (l : List ExprT) (e : Ending) : Prop :=
  (growT r l = none ∧ ∃ v1 v2, e = .returned (.tuple #[v1, v2, .bool false])) ∨
  ∃ t l' T u a' cap', growT r l = some (t, l') ∧ e = .returned (.tuple #[.iface T u, .slice a' l'.length cap', .bool true]) ∧ SlExpr w' a' l'.length l' ∧ l'.length ≤ cap' ∧ l'.length ≤ l.length ∧ (∀ q ∈ l', ExprT.Ok q) ∧ Tag t.n (.iface T u) ∧ InB B a' l'
theorem info_tree : (Tryz.prog.info? 55).map (fun i => (i.zero, i.size, i.bytes)) = some (some .nilIface, 1, 16) := by kernel_rfl
theorem sli_own {w : World} {base cap len e : Nat} {a : Option Addr} {l : List Value} (h : w.ownsRow base e 1 (.slice a len cap) len l) : SlI w a len l := by
  have hl : len = l.length := by have := h.1; omega
  refine ⟨hl, ?_⟩
  rcases h.2 with ⟨e, hn⟩ | ⟨g, c, cur, hv, hg, hc, _, _, _, htk⟩
  · exact .inl (List.length_eq_zero_iff.1 (by omega))
  · injection hv with hv
    refine .inr ⟨g, 0, hv, ⟨(Array.getElem?_eq_some_iff.1 hc).1, fun i hi => ?_⟩⟩
    have h2 := congrArg (fun l => l[i]?) htk
    simp only [List.getElem?_take] at h2
    rw [if_pos (by omega), Array.getElem?_toList, List.getElem?_eq_getElem hi] at h2
    simp only [World.cell?, hc, Nat.zero_add]
    exact h2
theorem SlExpr.head {w : World} {a : Option Addr} {len : Nat} {x : ExprT} {l : List ExprT} (h : SlExpr w a len (x :: l)) : ∃ b off, a = some ⟨b, off, none⟩ ∧ ExprRow w b off (x :: l) := by
  rcases h.2 with e | e
  · cases e
  · exact e
theorem ExprRow.tail {w : World} {b off : Nat} {x : ExprT} {l : List ExprT} (h : ExprRow w b off (x :: l)) : ExprRow w b (off + 7) l :=
  ⟨h.z, fun i hi => by have := h.c0 (i + 1) (by simpa using hi); rw [← show off + (i + 1) * 7 = off + 7 + i * 7 by omega]; simpa using this,
   fun i hi => by have := h.c1 (i + 1) (by simpa using hi); rw [← show off + (i + 1) * 7 + 1 = off + 7 + i * 7 + 1 by omega]; simpa using this,
   fun i hi => by have := h.c2 (i + 1) (by simpa using hi); rw [← show off + (i + 1) * 7 + 2 = off + 7 + i * 7 + 2 by omega]; simpa using this,
   fun i hi => by have := h.c3 (i + 1) (by simpa using hi); rw [← show off + (i + 1) * 7 + 3 = off + 7 + i * 7 + 3 by omega]; simpa using this,
   fun i hi => by have := h.c4 (i + 1) (by simpa using hi); rw [← show off + (i + 1) * 7 + 4 = off + 7 + i * 7 + 4 by omega]; simpa using this,
   fun i hi => by have := h.c5 (i + 1) (by simpa using hi); rw [← show off + (i + 1) * 7 + 5 = off + 7 + i * 7 + 5 by omega]; simpa using this,
   fun i hi => by have := h.c6 (i + 1) (by simpa using hi); rw [← show off + (i + 1) * 7 + 6 = off + 7 + i * 7 + 6 by omega]; simpa using this⟩
theorem Tags.snoc {xs : List ExprT} {vs : List Value} {x : ExprT} {v : Value} (h : Tags xs vs) (hv : Tag x v) : Tags (xs ++ [x]) (vs ++ [v]) := by
  refine ⟨by simp [h.1], fun i hi hi' => ?_⟩
  by_cases e : i < xs.length
  · rw [List.getElem_append_left e, List.getElem_append_left (by rw [h.1]; exact e)]
    exact h.2 i e _
  · simp at hi
    obtain rfl : i = xs.length := by omega
    rw [List.getElem_append_right (Nat.le_refl _), List.getElem_append_right (by rw [h.1]; exact Nat.le_refl _)]
    simpa using hv

theorem grow_node {r : Nat} {x : ExprT} {l : List ExprT} (hn : NodeP x) {pre : List ET} {l' : List ExprT} (h : takeK (growT r) x.f6.toNat l = some (pre, l')) (h2 : x.f0 = 2 → ∀ y ∈ pre.map ET.n, y.f0 = 1) : growT (r + 1) (x :: l) = some (.node x pre, l') := by
  simp only [growT]
  rw [if_pos hn, h, Option.bind_some, if_pos (by simpa using h2)]
theorem grow_no2 {r : Nat} {x : ExprT} {l : List ExprT} (hn : NodeP x) {pre : List ET} {l' : List ExprT} (h : takeK (growT r) x.f6.toNat l = some (pre, l')) (h2 : ¬ (x.f0 = 2 → ∀ y ∈ pre.map ET.n, y.f0 = 1)) : growT (r + 1) (x :: l) = none := by
  simp only [growT]
  rw [if_pos hn, h, Option.bind_some, if_neg (by simpa using h2)]
theorem grow_no1 {r : Nat} {x : ExprT} {l : List ExprT} (hn : NodeP x) (h : takeK (growT r) x.f6.toNat l = none) : growT (r + 1) (x :: l) = none := by
  simp only [growT]
  rw [if_pos hn, h]; rfl
theorem grow_no0 {r : Nat} {x : ExprT} {l : List ExprT} (hn : ¬ NodeP x) : growT (r + 1) (x :: l) = none := by
  simp only [growT]
  rw [if_neg hn]

set_option maxRecDepth 20000 in
set_option maxHeartbeats 2000000 in
theorem growExpr_any (B : Nat) : ∀ (r : Nat) (a : Option Addr) (len cap : Nat) (l : List ExprT) (w : World), r ≤ 12 → len ≤ 1000 → len ≤ cap → SlExpr w a len l → (∀ q ∈ l, ExprT.Ok q) → InB B a l → B ≤ w.heap.size →
    Calls Tryz.prog 37 #[.slice a len cap, .int .i64 r] w fun e w' => GrowEnd B w' r l e ∧ Below w.heap.size w w'
  | r, a, len, cap, [], w, hr, hl, hc, hs, hok, hI, hB => by
    obtain rfl : len = 0 := hs.1
    have no : Hid (growT r [] = none) := hide (by cases r <;> rfl)
    clear hs hok hI hB
    go_enter Tryz.func37, Tryz.ntmps37
    go_wp2_with fail
    refine bodyPost_ret (v := .tuple #[.nilIface, .slice none 0 0, .bool false]) (by simp [results, Tryz.results37, go_sem]) rfl ⟨.inl ⟨unhide no, _, _, rfl⟩, Below.refl _ _⟩
  | 0, a, len, cap, x :: l, w, hr, hl, hc, hs, hok, hI, hB => by
    have hp : ¬ len = 0 := by rw [hs.1]; simp
    clear hs hok hI hB
    go_enter Tryz.func37, Tryz.ntmps37
    go_wp2_with fail
    refine bodyPost_ret (v := .tuple #[.nilIface, .slice none 0 0, .bool false]) (by simp [results, Tryz.results37, go_sem]) rfl ⟨.inl ⟨rfl, _, _, rfl⟩, Below.refl _ _⟩
  | r + 1, a, len, cap, x :: l, w, hr, hl, hc, hs, hok, hI, hB => by
    have ih := hide (growExpr_any B r)
    have HI := hide hI
    have HB := hide hB
    clear hI hB
    obtain ⟨i0, hi, hz0, hz1, hz2⟩ := info_parts info_tree
    have hlen : len = l.length + 1 := hs.1
    have hp : ¬ len = 0 := by omega
    have hp1 : 1 ≤ len := by omega
    obtain ⟨b, off, rfl, hrow⟩ := hs.head
    have c0 := hrow.c0 0 (by simp)
    have c1 := hrow.c1 0 (by simp)
    have c2 := hrow.c2 0 (by simp)
    have c3 := hrow.c3 0 (by simp)
    have c4 := hrow.c4 0 (by simp)
    have c5 := hrow.c5 0 (by simp)
    have c6 := hrow.c6 0 (by simp)
    simp only [List.getElem_cons_zero, Nat.zero_mul, Nat.add_zero] at c0 c1 c2 c3 c4 c5 c6
    have dl : ((len : Int) == 0) = false := by simp; omega
    have dr : ((r : Int) + 1 == 0) = false := by simp; omega
    have HR := hide hrow
    have q1 := hide (fun w => goodExprNode_any x w (hok x (by simp)))
    have HO := hide (fun q (h : q ∈ l) => hok q (by simp [h]))
    have HL := hide hlen
    have zb := hrow.z
    clear hs hok hrow hlen
    go_enter Tryz.func37, Tryz.ntmps37
    go_wp2_with fail
    refine (unhide q1 _).mono ?_
    rintro e w1 ⟨⟨bn, rfl, hn⟩, hb1⟩
    clear q1 c0 c1 c2 c3 c4 c5 c6
    replace HR := hide ((unhide HR).keep hb1)
    have zb1 := Nat.lt_of_lt_of_le zb hb1.size
    have B1 := hide hb1
    clear hb1 zb
    cases bn with
    | false =>
      have no : Hid (growT (r + 1) (x :: l) = none) := hide (grow_no0 (fun h => by have := hn.2 h; cases this))
      clear hn
      go_wp2_with fail
      refine bodyPost_ret (v := .tuple #[.nilIface, .slice none 0 0, .bool false]) (by simp [results, Tryz.results37, go_sem]) rfl ⟨.inl ⟨unhide no, _, _, rfl⟩, unhide B1⟩
    | true =>
      have HN := hide (hn.1 rfl)
      clear hn
      have c0 := (unhide HR).c0 0 (by simp)
      have c1 := (unhide HR).c1 0 (by simp)
      have c2 := (unhide HR).c2 0 (by simp)
      have c3 := (unhide HR).c3 0 (by simp)
      have c4 := (unhide HR).c4 0 (by simp)
      have c5 := (unhide HR).c5 0 (by simp)
      have c6 := (unhide HR).c6 0 (by simp)
      simp only [List.getElem_cons_zero, Nat.zero_mul, Nat.add_zero] at c0 c1 c2 c3 c4 c5 c6
      go_wp2_with fail
      go_region
      obtain ⟨W2, hW2⟩ : ∃ W, W = (w1.alloc (.cells #[.int .i64 x.f0, .string x.f1, .int .i64 x.f2, .int .i64 x.f3, .string x.f4, .string x.f5, .int .i64 x.f6] 44)).drew := ⟨_, rfl⟩
      rw [← hW2]
      have b2 : Below w1.heap.size w1 W2 := by rw [hW2]; exact (bAl (Below.refl _ _) _).drew
      have R2 : Hid (RowIs W2 w1.heap.size (eRow x) 44) := hide (by rw [hW2]; exact RowIs.new w1 _ _)
      clear hW2 c0 c1 c2 c3 c4 c5 c6
      have B2 := hide (bTr (unhide B1) b2)
      have S2 : Hid (SlExpr W2 (if cap = 1 then some ⟨b, off, none⟩ else some ⟨b, off + 7, none⟩) (len - 1) l) := hide (by
        refine ⟨by have := unhide HL; omega, ?_⟩
        cases hl' : l with
        | nil => exact .inl rfl
        | cons y l1 =>
          right
          have e : ¬ cap = 1 := by have := unhide HL; rw [hl'] at this; simp at this; omega
          rw [if_neg e]
          rw [← hl']
          exact ⟨b, off + 7, rfl, ((unhide HR).keep b2).tail⟩)
      have I2 : Hid (InB B (if cap = 1 then some ⟨b, off, none⟩ else some ⟨b, off + 7, none⟩) l) := hide (by
        rcases unhide HI with e | ⟨b', off', e, hlt⟩
        · cases e
        · simp at e
          obtain ⟨rfl, rfl⟩ := e
          right
          split
          · exact ⟨_, _, rfl, hlt⟩
          · exact ⟨_, _, rfl, hlt⟩)
      have C2 : Hid (len - 1 ≤ cap - 1) := hide (by omega)
      have hn1 : len - 1 ≤ 1000 := by omega
      have HK := hide (unhide HN).kids
      obtain ⟨n, hn6⟩ : ∃ n : Nat, x.f6 = (n : Int) := ⟨x.f6.toNat, by have := (unhide HK).1; omega⟩
      have hn10 : n ≤ 10 := by have := (unhide HK).2; omega
      have r6 := (unhide R2).at (o := 6) (v := .int .i64 x.f6) rfl
      rw [hn6] at r6
      have H6 := hide hn6
      have T6 : Hid (x.f6.toNat = n) := hide (by omega)
      generalize (if cap = 1 then (some ⟨b, off, none⟩ : Option Addr) else some ⟨b, off + 7, none⟩) = A2 at *
      generalize cap - 1 = cap2 at *
      generalize len - 1 = len2 at *
      clear b2 HR B1 zb1 dl hp hp1 hc HK hn6
      go_wp2_with fail
      go_loopw [8, 9, 36] (fun s8 s9 i w' => ∃ (k : Nat) (pre : List ET) (l' : List ExprT) (a' : Option Addr) (n' cap' : Nat) (vs : List Value), k ≤ n ∧ n' ≤ 1000 ∧ i = .int .i64 k ∧ s8 = .slice a' n' cap' ∧ Hid (SlExpr w' a' n' l') ∧ Hid (n' ≤ cap') ∧ Hid (∀ q ∈ l', ExprT.Ok q) ∧ Hid (l'.length ≤ l.length) ∧ Hid (InB B a' l') ∧ Hid (w'.ownsRow W2.heap.size 55 1 s9 k vs) ∧ Hid (Tags (pre.map ET.n) vs) ∧ Hid (KidsTo (growT r) n l k pre l') ∧ Hid (Below W2.heap.size W2 w')) (fun _ _ i _ => n - (Go.RowKit.intOf i).toNat)
      case atStart => exact ⟨0, [], l, A2, len2, cap2, [], Nat.zero_le _, hn1, rfl, rfl, S2, C2, HO, hide (Nat.le_refl _), I2, hide (World.ownsRow_nil _ _ _ _), hide ⟨rfl, fun i h => by simp at h⟩, hide (KidsTo.start _ _ _), hide (Below.refl _ _)⟩
      case round =>
        obtain ⟨k, pre, l', a', n', cap', vs, hk, hn', rfl, rfl, hs', hc', ho', hll, hin, hown, htags, hkids, hb'⟩ := hrel
        by_cases hlt : k < n
        · have q := hide (fun w hs => unhide ih a' n' cap' l' w (by omega) hn' (unhide hc') hs (unhide ho') (unhide hin))
          go_wp2_with fail
          have szr := hide (Nat.le_trans (unhide HB) (Nat.le_trans (unhide B2).size (unhide hb').size))
          refine (unhide q _ (unhide hs') (unhide szr)).mono ?_
          rintro e w3 ⟨(⟨hg, v1, v2, rfl⟩ | ⟨t, l2, T, u, a2, cap3, hg, rfl, hs2, hc2, hl2, hok2, htag, hin2⟩), hb3⟩
          · have no : Hid (growT (r + 1) (x :: l) = none) := hide (grow_no1 (unhide HN) (by rw [unhide T6]; exact (unhide hkids).no hlt hg))
            have B3 := hide (bTr (unhide B2) ((unhide hb').trans (hb3.mono (unhide hb').size)))
            clear hg hb3 q
            go_wp2_with fail
            refine bodyPost_ret (v := .tuple #[.nilIface, .slice none 0 0, .bool false]) (by simp [results, Tryz.results37, go_sem]) rfl ⟨.inl ⟨unhide no, _, _, rfl⟩, unhide B3⟩
          · have ks := hide ((unhide hkids).step hlt hg)
            have ts := hide ((unhide htags).snoc htag)
            have hl3 : l2.length ≤ 1000 := by have := (unhide hs').1; omega
            have hll3 : Hid (l2.length ≤ l.length) := hide (Nat.le_trans hl2 (unhide hll))
            have HS2 := hide hs2
            have HC2 := hide hc2
            have HO2 := hide hok2
            have t1 := hide ((own_keepT (unhide hown) hb3).alloc (.cells #[.iface T u] 55))
            have t2 := hide (cell_one_new w3 (.iface T u) 55)
            have szb : W2.heap.size ≤ w3.heap.size := Nat.le_trans (unhide hb').size hb3.size
            have T4 : Hid (W2.heap.size ≤ (w3.alloc (.cells #[.iface T u] 55)).heap.size) := hide (by simp; omega)
            have t5 : (k + 1) * 16 ≤ 140737488355328 := by omega
            have lt := hide (fun j hj => (unhide hown).lt j hj)
            have HB3 := hide hb3
            have HI2 := hide hin2
            clear hg q hs2 hc2 hok2 htag hb3 hs' hc' ho' hown htags hkids hl2 hin2
            go_wp2_with (at_builtin; refine wpList_append_own_at _ rfl _ _ 95 rfl W2.heap.size 55 i0 _ 1 16 Tryz.underlying95 hi hz0 hz1 hz2 rfl (by decide) _ _ _ rfl (unhide t1) ⟨_, 0, none⟩ 1 1 [.iface T u] rfl rfl (unhide t2) (fun x hx => by simp at hx; subst hx; rfl) (by unfold maxLen; omega) t5 (unhide T4) ?_; intro v4 w4 hown4 hgrow4 _ hat4)
            have hB3 : B ≤ w3.heap.size := by have := (unhide B2).size; have := unhide HB; omega
            have B4 : Below W2.heap.size W2 w4 := ((unhide hb').trans ((bAl (unhide HB3) (.cells #[.iface T u] 55)).mono (unhide hb').size)).grown hgrow4 (unhide T4) (fun j hj => (unhide lt j hj).1)
            have K4 : Below B w3 w4 := ((Below.refl B w3).alloc hB3 (.cells #[.iface T u] 55)).grown hgrow4 (by simp; omega) (fun j hj => by have := (unhide lt j hj).1; have := (unhide B2).size; have := unhide HB; omega)
            exact ⟨⟨k + 1, pre ++ [t], l2, a2, l2.length, cap3, vs ++ [.iface T u], by omega, hl3, by go_num, rfl, hide ((unhide HS2).keepB (unhide HI2) K4 (by have := B4.size; have := (unhide B2).size; have := unhide HB; omega)), HC2, HO2, hll3, HI2, hide hown4, hide (by have := unhide ts; simpa using this), ks, hide B4⟩, by simp [Go.RowKit.intOf]; omega⟩
        · have ek : k = n := by omega
          subst ek
          have ko := hide ((unhide hkids).done)
          have R3 := (unhide R2).keep (unhide hb')
          have r0 := R3.at (o := 0) (v := .int .i64 x.f0) rfl
          have r1 := R3.at (o := 1) (v := .string x.f1) rfl
          have r2 := R3.at (o := 2) (v := .int .i64 x.f2) rfl
          have r3 := R3.at (o := 3) (v := .int .i64 x.f3) rfl
          have r4 := R3.at (o := 4) (v := .string x.f4) rfl
          have r5 := R3.at (o := 5) (v := .string x.f5) rfl
          have r6' := R3.at (o := 6) (v := .int .i64 x.f6) rfl
          have zr := R3.lt
          obtain ⟨av, cv, ev⟩ := own_sl (unhide hown)
          subst ev
          have q := hide (exprTreeOf_any x av k cv (pre.map ET.n) vs wr (unhide HN) (by rw [unhide H6]; simp [(unhide hkids).2.1]) (sli_own (unhide hown)) (unhide htags))
          have lp := hide (unhide hkids).2.1
          clear R3 r6 hkids
          go_wp2_with fail
          refine (unhide q).mono ?_
          rintro e w3 ⟨(⟨h1, v, rfl, htag⟩ | ⟨h1, rfl⟩), hb3⟩
          · obtain ⟨T, u, rfl⟩ := htag.if_
            have HT := hide htag
            have yes := hide (grow_node (unhide HN) (by rw [unhide T6]; exact unhide ko) h1)
            have HB3 := hide hb3
            clear h1 htag q r0 r1 r2 r3 r4 r5 r6' zr hb3
            go_wp2_with fail
            have hn2 := (unhide hs').1
            refine bodyPost_ret (v := .tuple #[.iface T u, .slice a' n' cap', .bool true]) (by simp [results, Tryz.results37, go_sem]) rfl ⟨.inr ⟨.node x pre, l', T, u, a', cap', unhide yes, by rw [hn2], ?_, ?_, ?_, unhide ho', unhide HT, unhide hin⟩, ?_⟩
            · rw [← hn2]; exact (unhide hs').keep (unhide HB3)
            · rw [← hn2]; exact unhide hc'
            · exact Nat.le_succ_of_le (unhide hll)
            · exact bTr (unhide B2) ((unhide hb').trans ((unhide HB3).mono (unhide hb').size))
          · have no := hide (grow_no2 (unhide HN) (by rw [unhide T6]; exact unhide ko) h1)
            have HB3 := hide hb3
            clear h1 q r0 r1 r2 r3 r4 r5 r6' zr hb3
            go_wp2_with fail
            refine bodyPost_ret (v := .tuple #[.nilIface, .slice a' n' cap', .bool false]) (by simp [results, Tryz.results37, go_sem]) rfl ⟨.inl ⟨unhide no, _, _, rfl⟩, bTr (unhide B2) ((unhide hb').trans ((unhide HB3).mono (unhide hb').size))⟩
end Go.Proofs.YteaidfighimoiaaGreat.V
/- spec.l10Take: the tree that it lays. -/
namespace Go.Proofs.YteaidfighimoiaaGreat.V
open Go.RowKit Go.Maps

/-- What was in w from lo on is as it was. -/
structure KeptY (lo : Nat) (w w' : World) : Prop where
  size : w.heap.size ≤ w'.heap.size
  block : ∀ c, lo ≤ c → c < w.heap.size → w'.heap[c]? = w.heap[c]?
theorem KeptY.refl (lo : Nat) (w : World) : KeptY lo w w := ⟨Nat.le_refl _, fun _ _ _ => rfl⟩
theorem KeptY.below {lo B : Nat} {w a b : World} (h : KeptY lo w a) (hb : Below B a b) (hB : w.heap.size ≤ B) : KeptY lo w b :=
  ⟨Nat.le_trans h.size hb.size, fun c h1 h2 => (hb.block c (Nat.lt_of_lt_of_le h2 hB)).trans (h.block c h1 h2)⟩
theorem KeptY.alloc {lo : Nat} {w a : World} (h : KeptY lo w a) (o : Obj) : KeptY lo w (a.alloc o) := h.below (B := a.heap.size) (bAl (Below.refl _ _) _) h.size
theorem KeptY.grown {lo : Nat} {w X Y : World} {row : Option Nat} (h : KeptY lo w X) (hg : X.grownBy Y row) (hr : ∀ g, row = some g → g < lo ∨ w.heap.size ≤ g) : KeptY lo w Y :=
  ⟨Nat.le_trans h.size hg.size, fun c h1 h2 => (hg.block c (Nat.lt_of_lt_of_le h2 h.size) (fun e => by have := hr c e.symm; omega)).trans (h.block c h1 h2)⟩
theorem KeptY.set {lo : Nat} {w w' : World} (h : KeptY lo w w') (b o : Nat) (v : Value) (hb : b < lo) : KeptY lo w (w'.setCell ⟨b, o, none⟩ v) :=
  ⟨by simpa [World.setCell] using h.size, fun c h1 h2 => by rw [heap_setCell_other w' ⟨b, o, none⟩ c v (by rintro rfl; omega)]; exact h.block c h1 h2⟩
theorem KeptY.cell {lo : Nat} {w w' : World} (h : KeptY lo w w') {b o : Nat} (h1 : lo ≤ b) (h2 : b < w.heap.size) {v : Value} (hc : w.cell? ⟨b, o, none⟩ = some v) : w'.cell? ⟨b, o, none⟩ = some v := by
  simp only [World.cell?] at hc ⊢
  rw [h.block b h1 h2]; exact hc

def enc8 (x : ExprT) (s : Value) : List Value := [.int .i64 x.f0, .string x.f1, .int .i64 x.f2, .int .i64 x.f3, .string x.f4, .string x.f5, .int .i64 x.f6, s]
abbrev agg8 (x : ExprT) (s : Value) : Value := .agg #[.int .i64 x.f0, .string x.f1, .int .i64 x.f2, .int .i64 x.f3, .string x.f4, .string x.f5, .int .i64 x.f6, s]
abbrev row8 (x : ExprT) (s : Value) : Array Value := #[.int .i64 x.f0, .string x.f1, .int .i64 x.f2, .int .i64 x.f3, .string x.f4, .string x.f5, .int .i64 x.f6, s]
abbrev zX : ExprT := ⟨0, ⟨#[]⟩, 0, 0, ⟨#[]⟩, ⟨#[]⟩, 0⟩
structure At8 (w : World) (b o : Nat) (x : ExprT) (s : Value) : Prop where
  c0 : w.cell? ⟨b, o, none⟩ = some (.int .i64 x.f0)
  c1 : w.cell? ⟨b, o + 1, none⟩ = some (.string x.f1)
  c2 : w.cell? ⟨b, o + 2, none⟩ = some (.int .i64 x.f2)
  c3 : w.cell? ⟨b, o + 3, none⟩ = some (.int .i64 x.f3)
  c4 : w.cell? ⟨b, o + 4, none⟩ = some (.string x.f4)
  c5 : w.cell? ⟨b, o + 5, none⟩ = some (.string x.f5)
  c6 : w.cell? ⟨b, o + 6, none⟩ = some (.int .i64 x.f6)
  c7 : w.cell? ⟨b, o + 7, none⟩ = some s
theorem At8.keptY {lo : Nat} {w w' : World} {b o : Nat} {x : ExprT} {s : Value} (h : At8 w b o x s) (hk : KeptY lo w w') (h1 : lo ≤ b) (h2 : b < w.heap.size) : At8 w' b o x s :=
  ⟨hk.cell h1 h2 h.c0, hk.cell h1 h2 h.c1, hk.cell h1 h2 h.c2, hk.cell h1 h2 h.c3, hk.cell h1 h2 h.c4, hk.cell h1 h2 h.c5, hk.cell h1 h2 h.c6, hk.cell h1 h2 h.c7⟩
/-- A tree that lies in memory from lo on, no deeper than r: the value s is its kids. -/
def TrAt : Nat → World → Nat → Value → ET → Prop
  | 0, _, _, _, _ => False
  | r + 1, w, lo, s, t => t.n.f6 = (t.kids.length : Int) ∧ t.kids.length ≤ 10 ∧ ∃ a cap, s = .slice a t.kids.length cap ∧ (t.kids = [] ∨ ∃ b, a = some ⟨b, 0, none⟩ ∧ lo ≤ b ∧ b < w.heap.size ∧ ∀ i (h : i < t.kids.length), ∃ s', At8 w b (i * 8) t.kids[i].n s' ∧ TrAt r w lo s' t.kids[i])
theorem TrAt.keptY {lo : Nat} {w w' : World} (hk : KeptY lo w w') : ∀ {r : Nat} {s : Value} {t : ET}, TrAt r w lo s t → TrAt r w' lo s t
  | 0, _, _, h => h.elim
  | r + 1, s, t, ⟨h1, h2, a, cap, h3, h4⟩ => ⟨h1, h2, a, cap, h3, h4.imp_right fun ⟨b, e, hl, hb, h5⟩ => ⟨b, e, hl, Nat.lt_of_lt_of_le hb hk.size, fun i hi => by
      obtain ⟨s', g1, g2⟩ := h5 i hi
      exact ⟨s', g1.keptY hk hl hb, TrAt.keptY hk g2⟩⟩⟩
theorem TrAt.low {lo lo' : Nat} {w : World} (hl : lo' ≤ lo) : ∀ {r : Nat} {s : Value} {t : ET}, TrAt r w lo s t → TrAt r w lo' s t
  | 0, _, _, h => h.elim
  | r + 1, s, t, ⟨h1, h2, a, cap, h3, h4⟩ => ⟨h1, h2, a, cap, h3, h4.imp_right fun ⟨b, e, hl', hb, h5⟩ => ⟨b, e, Nat.le_trans hl hl', hb, fun i hi => by
      obtain ⟨s', g1, g2⟩ := h5 i hi
      exact ⟨s', g1, TrAt.low hl g2⟩⟩⟩
/-- Trees that were made, and the row u is none of what they lie in. -/
def MadeY (r base : Nat) (w' : World) (u : Value) (ps : List (ET × Value)) : Prop :=
  ∀ i (h : i < ps.length), ∃ (wi : World) (lo : Nat), TrAt r wi lo ps[i].2 ps[i].1 ∧ KeptY lo wi w' ∧ (∀ g, u.ownBlock = some g → g < lo ∨ wi.heap.size ≤ g) ∧ base ≤ lo
theorem MadeY.next {r base bt k : Nat} {wr w3 w5 : World} {u u' x s : Value} {t : ET} {ps : List (ET × Value)} {o1 o2 : Obj} (fl : ps.length = k)
    (h : MadeY r base wr u ps) (b1 : Below wr.heap.size wr w3) (hv : TrAt r w3 wr.heap.size s t) (hbL : base ≤ wr.heap.size) (hgr : ((w3.alloc o1).alloc o2).grownBy w5 u.ownBlock) (hug : ∀ g, u.ownBlock = some g → g < wr.heap.size)
    (hat : u'.ownBlock = u.ownBlock ∨ u'.ownBlock = some ((w3.alloc o1).alloc o2).heap.size) (hbt : bt < base) :
    MadeY r base (w5.setCell ⟨bt, 7, none⟩ x) u' (ps ++ [(t, s)]) := by
  have hat' : ∀ g', u'.ownBlock = some g' → u.ownBlock = some g' ∨ w3.heap.size ≤ g' := by
    intro g' hg'
    rcases hat with e | e
    · rw [e] at hg'; exact .inl hg'
    · rw [e] at hg'; simp at hg'; right; omega
  intro i hi
  rw [List.length_append, List.length_cons, List.length_nil] at hi
  by_cases e : i < k
  · obtain ⟨wi, lo, c, kp, hu, hb⟩ := h i (by omega)
    rw [List.getElem_append_left (by omega)]
    refine ⟨wi, lo, c, ((((kp.below b1 kp.size).alloc o1).alloc o2).grown hgr hu).set bt 7 x (by omega), fun g' hg' => ?_, hb⟩
    rcases hat' g' hg' with h1 | h1
    · exact hu g' h1
    · have := kp.size; have := b1.size; exact .inr (by omega)
  · obtain rfl : i = k := by omega
    have e1 : (ps ++ [(t, s)])[i]'(by simp; omega) = (t, s) := by
      rw [List.getElem_append_right (by omega)]; simp [fl]
    rw [e1]
    refine ⟨w3, wr.heap.size, hv, ((((KeptY.refl _ w3).alloc o1).alloc o2).grown hgr (fun g hg => .inl (hug g hg))).set bt 7 x (by omega), fun g' hg' => ?_, hbL⟩
    rcases hat' g' hg' with h1 | h1
    · exact .inl (hug g' h1)
    · exact .inr h1
def encs8 (ps : List (ET × Value)) : List Value := ps.flatMap fun p => enc8 p.1.n p.2
theorem encs8_snoc (ps : List (ET × Value)) (t : ET) (s : Value) : encs8 (ps ++ [(t, s)]) = encs8 ps ++ enc8 t.n s := by simp [encs8]
theorem encs8_len : ∀ (ps : List (ET × Value)), (encs8 ps).length = ps.length * 8
  | [] => rfl
  | p :: ps => by have := encs8_len ps; simp [encs8, enc8] at this ⊢; omega
theorem encs8_get : ∀ (l : List (ET × Value)) (i j : Nat) (h : i < l.length), j < 8 → (encs8 l)[i * 8 + j]? = (enc8 l[i].1.n l[i].2)[j]?
  | [], i, j, h, _ => by simp at h
  | p :: l, 0, j, _, hj => by
    simp only [encs8, List.flatMap_cons, Nat.zero_mul, Nat.zero_add, List.getElem_cons_zero]
    rw [List.getElem?_append_left (by simp [enc8]; omega)]
  | p :: l, i + 1, j, h, hj => by
    simp only [encs8, List.flatMap_cons, List.getElem_cons_succ]
    rw [List.getElem?_append_right (by simp [enc8]; omega)]
    have := encs8_get l i j (by simpa using h) hj
    rw [show (i + 1) * 8 + j - (enc8 p.1.n p.2).length = i * 8 + j by simp [enc8]; omega]
    exact this
theorem own8_cell {w : World} {base cap len e g : Nat} {ps : List (ET × Value)} (h : w.ownsRow base e 8 (.slice (some ⟨g, 0, none⟩) len cap) len (encs8 ps)) (i j : Nat) (hi : i < ps.length) (hj : j < 8) (v : Value) (hv : (enc8 ps[i].1.n ps[i].2)[j]? = some v) : w.cell? ⟨g, i * 8 + j, none⟩ = some v := by
  have h2 := h.cells (g := g) rfl (i * 8 + j) v (by rw [encs8_get _ _ _ hi hj]; exact hv)
  simp only [Addr.add] at h2
  split at h2
  · rename_i e0
    rw [e0]; exact h2
  · simpa using h2
theorem own8_at {w : World} {base cap len e g : Nat} {ps : List (ET × Value)} (h : w.ownsRow base e 8 (.slice (some ⟨g, 0, none⟩) len cap) len (encs8 ps)) (i : Nat) (hi : i < ps.length) : At8 w g (i * 8) ps[i].1.n ps[i].2 :=
  ⟨own8_cell h i 0 hi (by omega) _ rfl, own8_cell h i 1 hi (by omega) _ rfl, own8_cell h i 2 hi (by omega) _ rfl, own8_cell h i 3 hi (by omega) _ rfl, own8_cell h i 4 hi (by omega) _ rfl, own8_cell h i 5 hi (by omega) _ rfl, own8_cell h i 6 hi (by omega) _ rfl, own8_cell h i 7 hi (by omega) _ rfl⟩
/-- What was made and lies in one row is a tree. -/
theorem MadeY.tree {r base e : Nat} {w : World} {v : Value} {ps : List (ET × Value)} {x : ExprT} (hm : MadeY r base w v ps) (ho : w.ownsRow base e 8 v ps.length (encs8 ps)) (h6 : x.f6 = (ps.length : Int)) (h10 : ps.length ≤ 10) : TrAt (r + 1) w base v (.node x (ps.map (·.1))) := by
  obtain ⟨a, cap, ev⟩ := own_sl ho
  subst ev
  refine ⟨by simpa [ET.n, ET.kids] using h6, by simpa [ET.kids] using h10, a, cap, by simp [ET.kids], ?_⟩
  rcases ho.2 with ⟨e1, hn⟩ | ⟨g, c, cur, hv, hg, hc, _⟩
  · left; simp at e1; simp [ET.kids]; exact e1.2.1
  · right
    injection hv with hv
    subst hv
    refine ⟨g, rfl, hg, (Array.getElem?_eq_some_iff.1 hc).1, fun i hi => ?_⟩
    have hi' : i < ps.length := by simpa [ET.kids] using hi
    obtain ⟨wi, lo, ht, hk, _, hb⟩ := hm i hi'
    refine ⟨ps[i].2, ?_, ?_⟩
    · have := own8_at ho i hi'
      simpa [ET.kids] using this
    · have := (ht.keptY hk).low hb
      simpa [ET.kids] using this
end Go.Proofs.YteaidfighimoiaaGreat.V
