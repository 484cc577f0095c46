/- The changes' map with what it holds: impl.changeLog's take, impl.changeLogOf. -/
import Derived.Test.YtpdnimchmgbijaaQMapT
import Derived.Test.YtpdnimchmgbijaaQItS
namespace Go.Proofs.Ytpdnimchmgbijaa
open Go.RowKit Go.Maps

/-- How an element of a map reads: as itself. -/
def hvR (v : Value) : Option (DataW Value × List MemPlace) := some (.held v, [])
abbrev CMap := Int × Int → Option DcT
/-- Block b is the changes' map m. -/
def CM (w : World) (b n : Nat) (m : CMap) : Prop :=
  ∃ D : DataW Value, w.ownsMap Try.prog 43 hvR b n D ∧ ∀ x kl, keyOf Try.prog 43 (encS x) = some kl → Maps.has D kl = (m x).isSome ∧ ∀ c, m x = some c → ∀ z, D.atKey kl z = .held (dcV c)
theorem CM.kept {w w' : World} {b n : Nat} {m : CMap} {row : Option Nat} (h : CM w b n m) (hg : w.grownBy w' row) (hne : some b ≠ row) : CM w' b n m := by
  obtain ⟨D, ho, hD⟩ := h; exact ⟨D, ho.kept hg hne, hD⟩
theorem CM.more {w : World} {b n n' : Nat} {m : CMap} (h : CM w b n m) (hn : n ≤ n') : CM w b n' m := by
  obtain ⟨D, ho, hD⟩ := h; exact ⟨D, ho.mono hn, hD⟩
theorem CM.lt {w : World} {b n : Nat} {m : CMap} (h : CM w b n m) : b < w.heap.size := by obtain ⟨D, ho, _⟩ := h; exact ho.lt
theorem CM.made (w : World) : CM (w.alloc (.map #[] 0)) w.heap.size 0 (fun _ => none) :=
  ⟨.map [], World.ownsMap_made _ _ _ _, fun x kl _ => ⟨by simp [Maps.has], fun c h => by cases h⟩⟩
theorem CM.keepB {w w' : World} {b n B : Nat} {m : CMap} (h : CM w b n m) (hb : Below B w w') (hlt : b < B) : CM w' b n m := by
  obtain ⟨D, ⟨es, clock, h1, h2⟩, hD⟩ := h
  exact ⟨D, ⟨es, clock, (hb.block b hlt).trans h1, h2⟩, hD⟩
theorem CM.setCell {w : World} {b n : Nat} {m : CMap} (h : CM w b n m) (b' o' : Nat) (hne : b ≠ b') (u : Value) : CM (w.setCell ⟨b', o', none⟩ u) b n m := by
  obtain ⟨D, ho, hD⟩ := h; exact ⟨D, ho.setCell hne u, hD⟩
def updM (m : CMap) (x : Int × Int) (c : DcT) : CMap := fun y => if y = x then some c else m y

def zDc : DcT := ⟨0, 0, 0, 0, 0, ⟨#[]⟩, ⟨#[]⟩, ⟨#[]⟩, ⟨#[]⟩⟩
theorem hv_atKey {D : DataW Value} {kl : Lit} {m : Option DcT} {v : Value} {ps : List MemPlace} (h1 : Maps.has D kl = m.isSome) (h2 : ∀ c, m = some c → ∀ z, D.atKey kl z = .held (dcV c)) (h : hvR v = some (D.atKey kl (.held (dcV zDc)), ps)) : v = dcV (m.getD zDc) := by
  unfold hvR at h
  simp only [Option.some.injEq, Prod.mk.injEq] at h
  cases m with
  | none =>
    rw [Maps.atKey_of_not_has (by rw [h1]; rfl)] at h
    simpa using h.1
  | some c =>
    rw [h2 c rfl] at h
    simpa using h.1

section
variable (w : World) {ops : Array Oper} {rest : List Oper} {o : Oper} {a : Act} {Q : Exit → Act → World → Prop}

theorem wpList_look_cm (hg : o.guard = none) (m x : Operand) (hop : o.op = Op.lookup 50 m x true) (b n : Nat) (M : CMap) (hm : a.eval m = .map (some b)) (hch : CM w b n M)
    (t s : Int) (hx : a.eval x = .agg #[.int .i64 t, .int .i64 s]) (ht : okI t) (hs : okI s)
    (hK : ∀ (c : DcT) (r : Bool), r = (M (t, s)).isSome → wpList Try.prog ops Q rest (a.put o.dst (.tuple #[.agg #[.int .i64 c.t, .int .i64 c.o, .int .i64 c.k, .int .i64 c.u, .int .i64 c.p, .string c.pa, .string c.pt, .string c.a, .string c.x], .bool r])) w) :
    wpList Try.prog ops Q (o :: rest) a w := by
  obtain ⟨D, hown, hD⟩ := hch
  obtain ⟨kl, hkl⟩ := key_stamp t s ht hs
  refine wpList_lookup_own_ok w hg m x _ hop 43 46 lawKS Try.underlying50 hvR (zeroDc w) (.held (dcV zDc)) [] rfl b n D hm hown (stV t s) kl hx hkl ?_
  intro v ps hv
  obtain ⟨h1, h2⟩ := hD (t, s) kl hkl
  rw [hv_atKey h1 h2 hv]
  exact hK _ _ h1

theorem wpList_get_cm (hg : o.guard = none) (m x : Operand) (hop : o.op = Op.lookup 50 m x false) (b n : Nat) (M : CMap) (hm : a.eval m = .map (some b)) (hch : CM w b n M)
    (t s : Int) (hx : a.eval x = .agg #[.int .i64 t, .int .i64 s]) (ht : okI t) (hs : okI s) (c : DcT) (hc : M (t, s) = some c)
    (hK : wpList Try.prog ops Q rest (a.put o.dst (.agg #[.int .i64 c.t, .int .i64 c.o, .int .i64 c.k, .int .i64 c.u, .int .i64 c.p, .string c.pa, .string c.pt, .string c.a, .string c.x])) w) :
    wpList Try.prog ops Q (o :: rest) a w := by
  obtain ⟨D, hown, hD⟩ := hch
  obtain ⟨kl, hkl⟩ := key_stamp t s ht hs
  obtain ⟨v, ps, hrun, hv⟩ := hown.lookup lawKS Try.underlying50 (zeroDc w) (zd := .held (dcV zDc)) (zp := []) rfl hkl
  obtain ⟨h1, h2⟩ := hD (t, s) kl hkl
  have e := hv_atKey h1 h2 hv
  rw [hc] at e
  subst e
  refine wpList_plain hg fun K' hK' => ?_
  unfold Oper.wp
  simp only [stV] at hrun
  simp [execOp, hop, hm, hx, hrun, Result.andThen]
  exact hK' _ _ hK

theorem wpList_put_cm (hg : o.guard = none) (m x v : Operand) (hop : o.op = Op.mapUpdate 50 m x v) (b n : Nat) (M : CMap) (hm : a.eval m = .map (some b)) (hch : CM w b n M) (hn : n < maxLen)
    (t s : Int) (c : DcT) (hx : a.eval x = .agg #[.int .i64 t, .int .i64 s]) (hv : a.eval v = .agg #[.int .i64 c.t, .int .i64 c.o, .int .i64 c.k, .int .i64 c.u, .int .i64 c.p, .string c.pa, .string c.pt, .string c.a, .string c.x]) (ht : okI t) (hs : okI s)
    (hK : ∀ w', CM w' b (n + 1) (updM M (t, s) c) → w.grownBy w' (some b) → wpList Try.prog ops Q rest (a.put o.dst undef) w') :
    wpList Try.prog ops Q (o :: rest) a w := by
  obtain ⟨D, hown, hD⟩ := hch
  obtain ⟨kl, hkl⟩ := key_stamp t s ht hs
  refine wpList_mapUpdate_own w hg m x v _ hop 43 46 lawKS Try.underlying50 hvR b n D hm hown hn (stV t s) (dcV c) kl hx hv hkl (.held (dcV c)) [] rfl ?_
  intro w' h1 h2
  refine hK w' ⟨_, h1, fun y kl' hk' => ?_⟩ h2
  by_cases e : y = (t, s)
  · subst e
    have e2 : kl' = kl := by rw [show encS (t, s) = stV t s from rfl, hkl] at hk'; cases hk'; rfl
    subst e2
    have hu : updM M (t, s) c (t, s) = some c := by simp [updM]
    rw [hu]
    refine ⟨Maps.has_put_same hown.isMap (lawKS.key hkl) _, fun c' hc' z => ?_⟩
    cases hc'
    exact Maps.atKey_put_same hown.isMap (lawKS.key hkl) _ z
  · have hne : kl' ≠ kl := fun e2 => e (encS_inj (lawKS.inj hk' (by rw [e2]; exact hkl)))
    have hu : updM M (t, s) c y = M y := by simp [updM, e]
    rw [hu, Maps.has_put_other hne]
    refine ⟨(hD y kl' hk').1, fun c' hc' z => ?_⟩
    rw [Maps.atKey_put_other hne]
    exact (hD y kl' hk').2 c' hc' z
end

def takeM (m : CMap) (l : List DcT) : CMap := l.foldl (fun m c => if (m (c.t, c.o)).isSome then m else updM m (c.t, c.o) c) m
def takeV (tv : Int → Int) (l : List DcT) : Int → Int := l.foldl (fun tv c => upd tv c.o c.t) tv
structure TkIs (m0 : CMap) (tv0 : Int → Int) (l : List DcT) (k : Nat) (m : CMap) (tv : Int → Int) : Prop where
  hm : m = takeM m0 (l.take k)
  hv : tv = takeV tv0 (l.take k)
  inv : ∀ x, (m x).isSome = true → x.1 ≤ tv x.2
theorem upd_id {tv : Int → Int} {o t : Int} (h : t ≤ tv o) : upd tv o t = tv := by
  funext a
  by_cases e : a = o
  · subst e; rw [upd_same]; omega
  · rw [upd_other tv e]
theorem TkIs.skip {m0 : CMap} {tv0 : Int → Int} {l : List DcT} {k : Nat} {m : CMap} {tv : Int → Int} (h : TkIs m0 tv0 l k m tv) (hk : k < l.length) (hs : (m (l[k].t, l[k].o)).isSome = true) : TkIs m0 tv0 l (k + 1) m tv := by
  refine ⟨?_, ?_, h.inv⟩
  · rw [List.take_succ_eq_append_getElem hk]; unfold takeM; rw [List.foldl_append]
    show m = if _ then _ else _
    rw [show List.foldl _ m0 (l.take k) = m from h.hm.symm, if_pos hs]
  · rw [List.take_succ_eq_append_getElem hk]; unfold takeV; rw [List.foldl_append]
    show tv = upd _ _ _
    rw [show List.foldl _ tv0 (l.take k) = tv from h.hv.symm, upd_id (h.inv _ hs)]
theorem TkIs.step {m0 : CMap} {tv0 : Int → Int} {l : List DcT} {k : Nat} {m : CMap} {tv : Int → Int} (h : TkIs m0 tv0 l k m tv) (hk : k < l.length) (hs : (m (l[k].t, l[k].o)).isSome = false) : TkIs m0 tv0 l (k + 1) (updM m (l[k].t, l[k].o) l[k]) (upd tv l[k].o l[k].t) := by
  refine ⟨?_, ?_, fun x hx => ?_⟩
  · rw [List.take_succ_eq_append_getElem hk]; unfold takeM; rw [List.foldl_append]
    show _ = if _ then _ else _
    rw [show List.foldl _ m0 (l.take k) = m from h.hm.symm, if_neg (by rw [hs]; simp)]
  · rw [List.take_succ_eq_append_getElem hk]; unfold takeV; rw [List.foldl_append]
    show _ = upd _ _ _
    rw [show List.foldl _ tv0 (l.take k) = tv from h.hv.symm]
  · by_cases e : x = (l[k].t, l[k].o)
    · subst e; rw [upd_same]; simp only; omega
    · have : (m x).isSome = true := by simpa [updM, e] using hx
      exact Int.le_trans (h.inv x this) (upd_le tv _ _ _)

set_option maxRecDepth 100000 in
set_option maxHeartbeats 1000000 in
theorem take_cm (bv bc nv nc : Nat) (tv0 : Int → Int) (m0 : CMap) (a : Option Addr) (len cap : Nat) (l : List DcT) (w0 W : World) (hB : Below w0.heap.size w0 W) (h1 : w0.heap.size ≤ bv) (h2 : w0.heap.size ≤ bc) (hne : bv ≠ bc)
    (hv : VecM W bv nv tv0) (hc : CM W bc nc m0) (hi0 : ∀ x, (m0 x).isSome = true → x.1 ≤ tv0 x.2) (hl : len ≤ 1000000) (hnv : nv ≤ 1000000) (hnc : nc ≤ 1000000) (hs : SlC w0 a len l) (hok : ∀ i (h : i < l.length), (okI l[i].t ∧ 0 < l[i].t) ∧ okI l[i].o) :
    Calls Try.prog 20 #[.agg #[.map (some bv), .map (some bc)], .slice a len cap] W fun e w' => e = .returned (.tuple #[]) ∧ Kept2 bv bc W w' ∧ ∃ m tv, VecM w' bv (nv + len) tv ∧ CM w' bc (nc + len) m ∧ TkIs m0 tv0 l len m tv := by
  have hb9 := hv.lt
  have hc9 := hc.lt
  obtain ⟨W1, hW1⟩ : ∃ W', W' = W.alloc (.cells #[.map (some bv), .map (some bc)] 52) := ⟨_, rfl⟩
  have k1 : Kept2 bv bc W W1 := by rw [hW1]; exact Kept2.alloc _ _ _ _
  have HK1 := hide k1
  have HR := hide (show RowIs W1 W.heap.size #[.map (some bv), .map (some bc)] 52 by rw [hW1]; exact RowIs.new _ _ _)
  have HB := hide (k1.below hB hB.size h1 h2)
  have hz1 : w0.heap.size ≤ W1.heap.size := (unhide HB).size
  have HV := hide (show VecM W1 bv nv tv0 by rw [hW1]; exact hv.kept (World.grownBy_alloc _ _ none) (by simp))
  have HC := hide (show CM W1 bc nc m0 by rw [hW1]; exact hc.kept (World.grownBy_alloc _ _ none) (by simp))
  have HW1 := hide hW1
  have HS := hide hs
  have HO := hide hok
  have nb : W.heap.size ≠ bv := by omega
  have nc : W.heap.size ≠ bc := by omega
  have NN := hide (And.intro nb nc)
  have NE := hide (And.intro hne (And.intro h1 h2))
  have TK0 : Hid (TkIs m0 tv0 l 0 m0 tv0) := hide ⟨rfl, rfl, hi0⟩
  clear k1 hW1 hB hv hc hs hok hi0 nb nc hne h1 h2 hb9 hc9
  go_enter Try.func20, Try.ntmps20
  go_wp2_with fail
  rw [← unhide HW1]
  go_loopw [10] (fun i wr => ∃ (k : Nat) (tv : Int → Int) (m : CMap), k ≤ len ∧ i = .int .i64 k ∧ Hid (VecM wr bv (nv + k) tv) ∧ Hid (CM wr bc (nc + k) m) ∧ Hid (TkIs m0 tv0 l k m tv) ∧ Hid (Kept2 bv bc W1 wr)) (fun i _ => len - (Go.RowKit.intOf i).toNat)
  case atStart => exact ⟨0, _, _, Nat.zero_le _, rfl, HV, HC, TK0, hide (Kept2.refl _ _ _)⟩
  case round =>
    clear HV HC TK0
    obtain ⟨k, tv, m, hk, rfl, hV, hC, hT, hK⟩ := hrel
    by_cases hlt : k < len
    · have KB := (unhide hK).below (unhide HB) hz1 (unhide NE).2.1 (unhide NE).2.2
      obtain ⟨b, off, rfl, hrow⟩ := ((unhide HS).keep KB).at hlt
      have hk' : k < l.length := by rw [← (unhide HS).1]; exact hlt
      have c0 := hrow.c0 k hk'
      have c1 := hrow.c1 k hk'
      have c2 := hrow.c2 k hk'
      have c3 := hrow.c3 k hk'
      have c4 := hrow.c4 k hk'
      have c5 := hrow.c5 k hk'
      have c6 := hrow.c6 k hk'
      have c7 := hrow.c7 k hk'
      have c8 := hrow.c8 k hk'
      have hR := (unhide hK).row (unhide HR) (unhide NN).1 (unhide NN).2
      have r0 := hR.at (o := 0) (v := .map (some bv)) rfl
      have r1 := hR.at (o := 1) (v := .map (some bc)) rfl
      have zz := hR.lt
      have ho := unhide HO k hk'
      have eS := hide (fun hle => (unhide hT).step hk' hle)
      have eK := hide (fun hle => (unhide hT).skip hk' hle)
      clear hrow KB
      generalize l[k] = A at c0 c1 c2 c3 c4 c5 c6 c7 c8 ho eS eK
      have HT := hide ho.1.1
      have HT0 := hide ho.1.2
      have HS9 := hide ho.2
      have HA := hide (show CM (wr.alloc (.cells #[.int .i64 A.t, .int .i64 A.o, .int .i64 A.k, .int .i64 A.u, .int .i64 A.p, .string A.pa, .string A.pt, .string A.a, .string A.x] 46)) bc (nc + k) m from (unhide hC).kept (World.grownBy_alloc _ _ none) (by simp))
      have HA2 := hide (show ∀ o2, CM ((wr.alloc (.cells #[.int .i64 A.t, .int .i64 A.o, .int .i64 A.k, .int .i64 A.u, .int .i64 A.p, .string A.pa, .string A.pt, .string A.a, .string A.x] 46)).alloc o2) bc (nc + k) m from fun o2 => (unhide HA).kept (World.grownBy_alloc _ _ none) (by simp))
      have HV2 := hide (show ∀ o2, VecM ((wr.alloc (.cells #[.int .i64 A.t, .int .i64 A.o, .int .i64 A.k, .int .i64 A.u, .int .i64 A.p, .string A.pa, .string A.pt, .string A.a, .string A.x] 46)).alloc o2) bv (nv + k) tv from fun o2 => ((unhide hV).kept (World.grownBy_alloc _ _ none) (by simp)).kept (World.grownBy_alloc _ _ none) (by simp))
      have HK2 := hide (show ∀ o2, Kept2 bv bc W1 ((wr.alloc (.cells #[.int .i64 A.t, .int .i64 A.o, .int .i64 A.k, .int .i64 A.u, .int .i64 A.p, .string A.pa, .string A.pt, .string A.a, .string A.x] 46)).alloc o2) from fun o2 => ((unhide hK).trans (Kept2.alloc _ _ _ _)).trans (Kept2.alloc _ _ _ _))
      have FX := hide (show ∀ o2 w1, ((wr.alloc (.cells #[.int .i64 A.t, .int .i64 A.o, .int .i64 A.k, .int .i64 A.u, .int .i64 A.p, .string A.pa, .string A.pt, .string A.a, .string A.x] 46)).alloc o2).grownBy w1 (some bc) →
          (w1.cell? ⟨W.heap.size, 0, none⟩ = some (.map (some bv)) ∧ w1.cell? ⟨wr.heap.size, 0, none⟩ = some (.int .i64 A.t) ∧ w1.cell? ⟨wr.heap.size, 1, none⟩ = some (.int .i64 A.o)) ∧ VecM w1 bv (nv + k) tv ∧ Kept2 bv bc W1 w1 from fun o2 w1 hg => by
        have e1 := (unhide hC).lt
        have e2 := (unhide hV).lt
        have K2 : Kept2 bv bc ((wr.alloc (.cells #[.int .i64 A.t, .int .i64 A.o, .int .i64 A.k, .int .i64 A.u, .int .i64 A.p, .string A.pa, .string A.pt, .string A.a, .string A.x] 46)).alloc o2) w1 := Kept2.g2 hg
        have RX : RowIs ((wr.alloc (.cells #[.int .i64 A.t, .int .i64 A.o, .int .i64 A.k, .int .i64 A.u, .int .i64 A.p, .string A.pa, .string A.pt, .string A.a, .string A.x] 46)).alloc o2) wr.heap.size #[.int .i64 A.t, .int .i64 A.o, .int .i64 A.k, .int .i64 A.u, .int .i64 A.p, .string A.pa, .string A.pt, .string A.a, .string A.x] 46 := (RowIs.new wr _ _).keep (bAl (Below.refl _ _) _)
        have RX1 := K2.row RX (by omega) (by omega)
        have R1 := ((unhide HK2 o2).trans K2).row (unhide HR) (unhide NN).1 (unhide NN).2
        exact ⟨⟨R1.at rfl, RX1.at rfl, RX1.at rfl⟩, (unhide HV2 o2).kept hg (by have := (unhide NE).1; simpa using this), (unhide HK2 o2).trans K2⟩)
      clear ho hR
      go_wp2_with (first
        | (at_lookup; refine wpList_look_cm _ rfl _ _ rfl bc (nc + k) m rfl (unhide HA) A.t A.o rfl (unhide HT) (unhide HS9) ?_; intro C r hr; have HRr := hide hr; clear hr)
        | (at_mapUpdate; refine wpList_put_cm _ rfl _ _ _ rfl bc (nc + k) m rfl (unhide HA2 _) (by unfold maxLen; omega) A.t A.o A rfl rfl (unhide HT) (unhide HS9) ?_; intro w1 hc1 hg1; have HC1 := hide hc1; obtain ⟨⟨x0, x1, x2⟩, hv1, hk1⟩ := unhide FX _ _ hg1; have HV1 := hide hv1; have HK3 := hide hk1; clear hc1 hg1 hv1 hk1))
      · refine (see_any bv (nv + k) tv A.t A.o _ (unhide HV1) (by unfold maxLen; omega) (unhide HT) (unhide HS9) (unhide HT0)).mono ?_
        rintro e w2 ⟨rfl, hv2, hg2⟩
        have V9 := hide hv2
        have C9 := hide ((unhide HC1).kept hg2 (by have := (unhide NE).1; intro h; simp at h; omega))
        have K9 := hide ((unhide HK3).trans (Kept2.g1 hg2))
        clear hv2 hg2 HV1 HC1 HK3 x0 x1 x2
        go_wp2_with fail
        exact ⟨⟨k + 1, upd tv A.o A.t, _, by omega, by go_num, V9, C9, hide (unhide eS (by rw [← unhide HRr]; simpa using (by assumption : (!r) = true))), K9⟩, by simp [Go.RowKit.intOf]; omega⟩
      · exact ⟨⟨k + 1, tv, m, by omega, by go_num, hide ((unhide HV2 _).more (by omega)), hide ((unhide HA2 _).more (by omega)), hide (unhide eK (by rw [← unhide HRr]; simpa using (by assumption : (!r) = false))), hide (unhide HK2 _)⟩, by simp [Go.RowKit.intOf]; omega⟩
    · obtain rfl : k = len := by omega
      go_wp2_with fail
      go_end0
      exact ⟨rfl, (unhide HK1).trans (unhide hK), m, tv, unhide hV, unhide hC, unhide hT⟩

set_option maxRecDepth 100000 in
set_option maxHeartbeats 1000000 in
theorem changeLogOf_cm (a : Option Addr) (len cap : Nat) (l : List DcT) (w : World) (hl : len ≤ 1000000) (hs : SlC w a len l) (hok : ∀ i (h : i < l.length), (okI l[i].t ∧ 0 < l[i].t) ∧ okI l[i].o) :
    Calls Try.prog 18 #[.slice a len cap] w fun e w' => (∃ bv bc, e = .returned (.agg #[.map (some bv), .map (some bc)]) ∧ (w.heap.size ≤ bv ∧ w.heap.size ≤ bc ∧ bv ≠ bc) ∧ VecM w' bv len (takeV (fun _ => 0) l) ∧ CM w' bc len (takeM (fun _ => none) l)) ∧ Below w.heap.size w w' := by
  obtain ⟨W1, hW1⟩ : ∃ W, W = w.alloc (.cells #[.map none, .map none] 52) := ⟨_, rfl⟩
  obtain ⟨W2, hW2⟩ : ∃ W, W = W1.alloc (.map #[] 0) := ⟨_, rfl⟩
  obtain ⟨W3, hW3⟩ : ∃ W, W = W2.alloc (.map #[] 0) := ⟨_, rfl⟩
  obtain ⟨W4, hW4⟩ : ∃ W, W = W3.alloc (.cells #[.map (some (w.heap.size + 1)), .map (some (w.heap.size + 1 + 1))] 52) := ⟨_, rfl⟩
  have z1 : W1.heap.size = w.heap.size + 1 := by rw [hW1]; simp
  have z2 : W2.heap.size = w.heap.size + 1 + 1 := by rw [hW2]; simp; exact z1
  have z3 : W3.heap.size = w.heap.size + 1 + 1 + 1 := by rw [hW3]; simp; exact z2
  have b1 : Below w.heap.size w W1 := by rw [hW1]; exact bAl (Below.refl _ _) _
  have b2 : Below W1.heap.size W1 W2 := by rw [hW2]; exact bAl (Below.refl _ _) _
  have b3 : Below W2.heap.size W2 W3 := by rw [hW3]; exact bAl (Below.refl _ _) _
  have b4 : Below W3.heap.size W3 W4 := by rw [hW4]; exact bAl (Below.refl _ _) _
  have g3 : W2.grownBy W3 none := by rw [hW3]; exact World.grownBy_alloc _ _ _
  have g4 : W3.grownBy W4 none := by rw [hW4]; exact World.grownBy_alloc _ _ _
  have HV := hide (((show VecM W2 (w.heap.size + 1) 0 (fun _ => 0) by rw [hW2, ← z1]; exact VecM.made W1).kept g3 (by simp)).kept g4 (by simp))
  have HC := hide ((show CM W3 (w.heap.size + 1 + 1) 0 (fun _ => none) by rw [hW3, ← z2]; exact CM.made W2).kept g4 (by simp))
  have HB := hide (bTr (bTr (bTr b1 b2) b3) b4)
  have HR := hide ((show RowIs W1 w.heap.size #[.map none, .map none] 52 by rw [hW1]; exact RowIs.new _ _ _).keep (bTr (bTr b2 b3) b4))
  have HL := hide (show RowIs W4 (w.heap.size + 1 + 1 + 1) #[.map (some (w.heap.size + 1)), .map (some (w.heap.size + 1 + 1))] 52 by rw [hW4, ← z3]; exact RowIs.new _ _ _)
  have HW := hide (show (((w.alloc (.cells #[.map none, .map none] 52)).alloc (.map #[] 0)).alloc (.map #[] 0)).alloc (.cells #[.map (some (w.heap.size + 1)), .map (some (w.heap.size + 1 + 1))] 52) = W4 by rw [hW4, hW3, hW2, hW1])
  have qt := hide (take_cm (w.heap.size + 1) (w.heap.size + 1 + 1) 0 0 _ _ a len cap l w W4 (unhide HB) (by omega) (by omega) (by omega) (unhide HV) (unhide HC) (fun x h => by cases h) hl (by omega) (by omega) hs hok)
  have HLL := hide hs.1
  clear hW1 hW2 hW3 hW4 z1 z2 z3 b1 b2 b3 b4 g3 g4 HV HC hs hok
  have hmm := @run_makeMap Try.prog
  go_enter Try.func18, Try.ntmps18
  go_wp2_with fail
  rw [unhide HW]
  clear HW hmm
  refine (unhide qt).mono ?_
  rintro e w5 ⟨rfl, hk, m, tv, hv, hc, htk⟩
  have hll : len = l.length := unhide HLL
  have em : m = takeM (fun _ => none) l := by rw [htk.hm, hll, List.take_length]
  have ev : tv = takeV (fun _ => 0) l := by rw [htk.hv, hll, List.take_length]
  subst em ev
  rw [Nat.zero_add] at hv hc
  have r1 := hk.row (unhide HR) (by omega) (by omega)
  have r2 := hk.row (unhide HL) (by omega) (by omega)
  have B5 := hide (hk.below (unhide HB) (unhide HB).size (by omega) (by omega))
  have V5 := hide hv
  have C5 := hide hc
  clear hk hv hc htk qt HR HL HB hll
  have f0 := r1.froz 0
  have f1 := r1.froz 1
  have j0 := r1.at (o := 0) (v := .map none) rfl
  have j1 := r1.at (o := 1) (v := .map none) rfl
  have d0 := r2.at (o := 0) (v := .map (some (w.heap.size + 1))) rfl
  have d1 := r2.at (o := 1) (v := .map (some (w.heap.size + 1 + 1))) rfl
  clear r1 r2
  go_wp2_with fail
  refine bodyPost_ret (v := .agg #[.map (some (w.heap.size + 1)), .map (some (w.heap.size + 1 + 1))]) (by simp [results, Try.results18, go_sem, j0, j1]) rfl ⟨⟨_, _, rfl, ⟨by omega, by omega, by omega⟩, ?_, ?_⟩, ?_⟩
  · exact ((unhide V5).setCell _ _ (by omega) _).setCell _ _ (by omega) _
  · exact ((unhide C5).setCell _ _ (by omega) _).setCell _ _ (by omega) _
  · exact bSet (bSet (unhide B5) _ _ (Nat.le_refl _) _) _ _ (Nat.le_refl _) _
end Go.Proofs.Ytpdnimchmgbijaa
