/- Documents: whose kid each element is, by the program. -/
import Derived.Test.YtdhpfhpegaekpaaDoorELr
import Derived.Deep.RegionHeld3
import Derived.Test.YtdhpfhpegaekpaaDoorQApp
namespace Go.Proofs.YtdhpfhpegaekpaaDoor.V
set_option linter.unusedSimpArgs false
set_option linter.unusedVariables false
set_option maxRecDepth 20000
open Go.RowKit

def iV (n : Int) : Value := .int .i64 n
/-- The depth of what waits under p. -/
def dW (D : List Nat) (p : Int) : Nat := if p < 0 then 1 else D.getD p.toNat 0 + 1
structure ParD (ps : List Int) (D : List Nat) : Prop where
  len : ps.length = D.length
  at' : ∀ j (h : j < ps.length), -1 ≤ ps[j] ∧ ps[j] < j ∧ D[j]? = some (dW D ps[j])
theorem dW_app (D : List Nat) (d : Nat) (p : Int) (h : p < D.length) : dW (D ++ [d]) p = dW D p := by
  unfold dW
  by_cases hp : p < 0
  · rw [if_pos hp, if_pos hp]
  · rw [if_neg hp, if_neg hp, List.getD_eq_getElem?_getD, List.getD_eq_getElem?_getD, List.getElem?_append_left (by omega)]
theorem dW_last (D : List Nat) (d : Nat) : dW (D ++ [d]) (D.length : Int) = d + 1 := by
  unfold dW
  rw [if_neg (by omega), Int.toNat_natCast]
  simp [List.getD_eq_getElem?_getD]
theorem wp_worldD {P : Program} {c : Code} {Q : Exit → Act → World → Prop} {a : Act} {W W' : World} (h : W = W') (k : Code.wp P c Q a W') : Code.wp P c Q a W := h ▸ k
structure WtS (w0 w : World) (xs : List ElemT) (i : Nat) (pv wv : Value) (ps wt : List Int) (D : List Nat) : Prop where
  st : Steps (ksOf xs) 0 [1] i ((wt.map (dW D)).reverse) D
  par : ParD ps D
  len : ps.length = i
  lo : ∀ p ∈ wt, -1 ≤ p ∧ p < i
  wl : wt.length ≤ 1 + 20 * i
  op : w.ownsRow w0.heap.size 3 1 pv ps.length (ps.map iV)
  ow : w.ownsRow w0.heap.size 3 1 wv wt.length (wt.map iV)
  ap : ∀ g, pv.ownBlock = some g → wv.ownBlock ≠ some g
  bel : Below w0.heap.size w0 w
theorem WtS.dl {w0 w : World} {xs : List ElemT} {i : Nat} {pv wv : Value} {ps wt : List Int} {D : List Nat} (h : WtS w0 w xs i pv wv ps wt D) : D.length = i := by have := h.st.le.2; omega
/-- What is known of the lists alone when one more is taken. -/
theorem WtS.lists {w0 w : World} {xs : List ElemT} {i : Nat} {pv wv : Value} {ps wt : List Int} {D : List Nat} (h : WtS w0 w xs i pv wv ps wt D) (hi : i < xs.length) {n : Nat} (hk : (xs[i]).f4 = (n : Int)) {q : Nat} (hq : wt.length = q + 1) :
    Steps (ksOf xs) 0 [1] (i + 1) (((wt.take q ++ List.replicate n (i : Int)).map (dW (D ++ [dW D (wt[q]'(by omega))]))).reverse) (D ++ [dW D (wt[q]'(by omega))]) ∧ ParD (ps ++ [wt[q]'(by omega)]) (D ++ [dW D (wt[q]'(by omega))]) := by
  have hdl := h.dl
  have hqt : q < wt.length := by omega
  obtain ⟨p, hp⟩ : ∃ p, wt[q] = p := ⟨_, rfl⟩
  have hpl := h.lo wt[q] (List.getElem_mem hqt)
  rw [hp] at hpl ⊢
  have ew : wt = wt.take q ++ [p] := by
    rw [← hp, ← List.take_succ_eq_append_getElem hqt, List.take_of_length_le (by omega)]
  have hK : i < (ksOf xs).length := by simpa [ksOf] using hi
  have eK : (ksOf xs)[i] = n := by simp [ksOf, hk]
  have hs := h.st
  rw [ew, List.map_append, List.reverse_append] at hs
  have s2 := Steps.snoc hs hK
  rw [eK] at s2
  have em : (wt.take q).map (dW (D ++ [dW D p])) = (wt.take q).map (dW D) := List.map_congr_left fun x hx => dW_app D _ x (by have := (h.lo x (List.mem_of_mem_take hx)).2; omega)
  have el : dW (D ++ [dW D p]) (i : Int) = dW D p + 1 := by rw [← hdl]; exact dW_last D _
  constructor
  · rw [List.map_append, List.reverse_append, em, List.map_replicate, List.reverse_replicate, el]
    exact s2
  · refine ⟨by simp [h.par.len], fun j hj => ?_⟩
    rw [List.length_append, List.length_singleton] at hj
    by_cases e : j < ps.length
    · obtain ⟨a, b, c⟩ := h.par.at' j e
      rw [List.getElem_append_left e]
      refine ⟨a, b, ?_⟩
      rw [List.getElem?_append_left (by rw [← h.par.len]; exact e), c, dW_app D _ _ (by have := h.len; omega)]
    · obtain rfl : j = ps.length := by omega
      rw [List.getElem_append_right (Nat.le_refl _)]
      simp only [Nat.sub_self, List.getElem_singleton]
      refine ⟨hpl.1, by rw [h.len]; exact hpl.2, ?_⟩
      rw [List.getElem?_append_right (by rw [h.par.len]; exact Nat.le_refl _), h.par.len, Nat.sub_self, dW_app D _ _ (by omega)]
      rfl
theorem WtS.keep {w0 w w2 : World} {xs : List ElemT} {i : Nat} {pv wv : Value} {ps wt : List Int} {D : List Nat} (h : WtS w0 w xs i pv wv ps wt D) (hb : Below w.heap.size w w2) : WtS w0 w2 xs i pv wv ps wt D :=
  ⟨h.st, h.par, h.len, h.lo, h.wl, own_kD h.op hb, own_kD h.ow hb, h.ap, bTr h.bel hb⟩
theorem WtS.more {w0 wB w4 w6 w7 : World} {xs : List ElemT} {i : Nat} {pv wv v4 v7 : Value} {ps wt : List Int} {D : List Nat} (h : WtS w0 wB xs i pv wv ps wt D) (hi : i < xs.length) {n : Nat} (hk : (xs[i]).f4 = (n : Int)) (hn : n ≤ 20) {q g : Nat} (hq : wt.length = q + 1) (hg : wv.ownBlock = some g) (o : Obj)
    (hown4 : w4.ownsRow w0.heap.size 3 1 v4 (ps.length + 1) (ps.map iV ++ [iV (wt[q]'(by omega))])) (hg4 : (wB.alloc o).grownBy w4 pv.ownBlock) (hat4 : v4.ownBlock = pv.ownBlock ∨ v4.ownBlock = some (wB.alloc o).heap.size) (hb6 : Below w4.heap.size w4 w6)
    (hown7 : w7.ownsRow w0.heap.size 3 1 v7 (q + n) ((wt.map iV).take q ++ List.replicate n (iV (i : Int)))) (hg7 : w6.grownBy w7 (some g)) (hat7 : v7.ownBlock = some g ∨ v7.ownBlock = some w6.heap.size) :
    WtS w0 w7 xs (i + 1) v4 v7 (ps ++ [wt[q]'(by omega)]) (wt.take q ++ List.replicate n (i : Int)) (D ++ [dW D (wt[q]'(by omega))]) := by
  obtain ⟨s1, s2⟩ := h.lists hi hk hq
  have gl := (h.ow.lt g hg).2
  have z4 : wB.heap.size + 1 ≤ w4.heap.size := by have := hg4.size; simpa using this
  have p4 : v4.ownBlock ≠ some g := fun e => by
    rcases hat4 with e2 | e2
    · exact h.ap g (by rw [← e2]; exact e) hg
    · rw [e2] at e
      simp at e
      omega
  have op6 := own_kD hown4 hb6
  have op7 := op6.kept hg7 (.inr p4)
  refine ⟨s1, s2, by simp [h.len], fun x hx => ?_, by simp; have := h.wl; omega, by simpa using op7, by simpa [List.map_take, iV, show min q wt.length = q by omega] using hown7, fun g4 hg4' e => ?_, ?_⟩
  · rcases List.mem_append.1 hx with e | e
    · have := h.lo x (List.mem_of_mem_take e); omega
    · rw [List.eq_of_mem_replicate e]; omega
  · rcases hat7 with e2 | e2
    · rw [e2] at e
      cases e
      exact p4 hg4'
    · rw [e2] at e
      cases e
      have := (op6.lt _ hg4').2
      omega
  · have c1 : Below w0.heap.size w0 (wB.alloc o) := bAl h.bel o
    have c2 : Below w0.heap.size w0 w4 := c1.grown hg4 c1.size (fun k hk => (h.op.lt k hk).1)
    have c3 : Below w0.heap.size w0 w6 := bTr c2 hb6
    exact c3.grown hg7 c3.size (fun k hk => by cases hk; exact (h.ow.lt g hg).1)
def ParO (w : World) (xs : List ElemT) (e : Ending) (w' : World) : Prop :=
  (¬ (∃ D, Steps (ksOf xs) 0 [1] xs.length [] D) ∧ ∃ a n c, e = .returned (.tuple #[.slice a n c, .bool false])) ∨
  ∃ ps D v, e = .returned (.tuple #[v, .bool true]) ∧ Steps (ksOf xs) 0 [1] xs.length [] D ∧ ParD ps D ∧ ps.length = xs.length ∧ w'.ownsRow w.heap.size 3 1 v ps.length (ps.map iV)
theorem own_form1 {w : World} {base e n : Nat} {v : Value} {xs : List Value} (h : w.ownsRow base e 1 v n xs) : ∃ a c, v = .slice a n c ∧ (0 < n → ∃ g, a = some ⟨g, 0, none⟩ ∧ base ≤ g ∧ g < w.heap.size) := by
  rcases h.2 with ⟨e1, e0⟩ | ⟨g, c, _, e1, hg, hh, _⟩
  · exact ⟨none, 0, by rw [e1, e0], fun h => by omega⟩
  · exact ⟨_, c, e1, fun _ => ⟨g, rfl, hg, (Array.getElem?_eq_some_iff.1 hh).1⟩⟩
theorem own_cap {w : World} {base e g n cap : Nat} {xs : List Value} (h : w.ownsRow base e 1 (.slice (some ⟨g, 0, none⟩) n cap) n xs) : n ≤ cap := by
  rcases h.2 with ⟨h', _⟩ | ⟨g', cap', cur, h', hbg, hg, hnc, hcm, hcs, htake⟩
  · simp at h'
  · simp only [Value.slice.injEq, Option.some.injEq, Addr.mk.injEq, and_true, true_and] at h'
    obtain ⟨rfl, rfl⟩ := h'
    exact hnc
theorem cellG {w w' : World} {b o : Nat} {v : Value} {row : Option Nat} (h : w.cell? ⟨b, o, none⟩ = some v) (hg : w.grownBy w' row) (hl : b < w.heap.size) (hne : some b ≠ row) : w'.cell? ⟨b, o, none⟩ = some v := by
  rw [World.cell?_of_block (hg.block b hl hne)]; exact h
theorem rowG4 {w w' : World} {b : Nat} {C : Array Value} {T : TypeId} {row : Option Nat} (h : RowIs w b C T) (hg : w.grownBy w' row) (hne : some b ≠ row) : RowIs w' b C T := by
  have hl := h.lt
  unfold RowIs at *; rw [hg.block b hl hne]; exact h
set_option maxHeartbeats 4000000 in
theorem parentsOf_any (h : Hd) (l : List ElemE) (w : World) (h60 : l.length ≤ 60) (hs : SqElemE w 0 h l) (hk : ∀ x ∈ l, 0 ≤ x.t.f4 ∧ x.t.f4 ≤ 20) :
    Calls Tryd.prog 35 #[.slice h.a h.len h.cap] w fun e w' => ParO w (l.map (·.t)) e w' ∧ Below w.heap.size w w' := by
  obtain ⟨i0, hi0, hz⟩ := Option.map_eq_some_iff.1 info_int3
  simp only [Prod.mk.injEq] at hz
  obtain ⟨hz0, hz1, hz2⟩ := hz
  have HI := hide (And.intro hi0 (And.intro hz0 (And.intro hz1 hz2)))
  have HS := hide hs
  have HK := hide hk
  have HL := hide hs.1
  have h60' : h.len ≤ 60 := by rw [hs.1]; exact h60
  obtain ⟨a, len, cap⟩ := h
  simp only at HL h60'
  obtain ⟨W1, hW1⟩ : ∃ W, W = w.alloc (.cells #[.int .i64 (-1)] 3) := ⟨_, rfl⟩
  have b1 : Below w.heap.size w W1 := by rw [hW1]; exact bAl (Below.refl _ _) _
  have T0 := hide (show WtS w W1 (l.map (·.t)) 0 (.slice none 0 0) (.slice (some ⟨w.heap.size, 0, none⟩) 1 1) [] [-1] [] from
    ⟨by simpa [dW] using Steps.nil 0 [1], ⟨rfl, fun j hj => absurd hj (Nat.not_lt_zero _)⟩, rfl, by simp, by simp, World.ownsRow_nil _ _ _ _, by rw [hW1]; exact World.ownsRow_lit w #[.int .i64 (-1)] 1 (Nat.le_refl _) (by unfold maxLen; omega) rfl, (fun g hg => by cases hg), b1⟩)
  have HW1 := hide hW1.symm
  clear hs hk hW1 b1 hi0 hz0 hz1 hz2
  go_enter Tryd.func35, Tryd.ntmps35
  go_upto_region 3 with fail
  refine wp_worldD (unhide HW1) ?_
  clear HW1
  go_wp2_with fail
  go_loopw [4, 5, 6, 7, 8, 12] (fun pv wv _ _ _ q w' => ∃ (i : Nat) (ps wt : List Int) (D : List Nat), i ≤ len ∧ q = .int .i64 i ∧ Hid (WtS w w' (l.map (·.t)) i pv wv ps wt D)) (fun _ _ _ _ _ q _ => len - (Go.RowKit.intOf q).toNat)
  case atStart => exact ⟨0, [], [-1], [], Nat.zero_le _, rfl, T0⟩
  case round =>
    obtain ⟨i, ps, wt, D, hi9, rfl, hT⟩ := hrel
    clear T0
    obtain ⟨wa, wc, rfl, hwa⟩ := own_form1 (unhide hT).ow
    by_cases hlt : i < len
    · obtain ⟨b, off, rfl, hrow⟩ := ((unhide HS).keep (unhide hT).bel).at hlt
      have hk' : i < l.length := by rw [← unhide HL]; exact hlt
      have c0 := hrow.c0 i hk'
      have c1 := hrow.c1 i hk'
      have c2 := hrow.c2 i hk'
      have c3 := hrow.c3 i hk'
      have c4 := hrow.c4 i hk'
      have hzb := hrow.z
      have hkx := unhide HK _ (List.getElem_mem hk')
      obtain ⟨n, hn⟩ : ∃ n : Nat, (l[i]).t.f4 = (n : Int) := ⟨(l[i]).t.f4.toNat, by omega⟩
      have hn20 : n ≤ 20 := by omega
      have HN := hide (show ((l.map (fun x : ElemE => x.t))[i]'(by simpa using hk')).f4 = (n : Int) by rw [List.getElem_map]; exact hn)
      rw [hn] at c4
      clear hrow hkx hn
      generalize l[i] = x at c0 c1 c2 c3
      obtain ⟨W3, hW3⟩ : ∃ W, W = wr.alloc (.cells #[.string x.t.f0, .string x.t.f1, .slice x.h2.a x.h2.len x.h2.cap, .slice x.h3.a x.h3.len x.h3.cap, .int .i64 (n : Int)] 35) := ⟨_, rfl⟩
      have b3 : Below wr.heap.size wr W3 := by rw [hW3]; exact bAl (Below.refl _ _) _
      have R3 := hide (show RowIs W3 wr.heap.size #[.string x.t.f0, .string x.t.f1, .slice x.h2.a x.h2.len x.h2.cap, .slice x.h3.a x.h3.len x.h3.cap, .int .i64 (n : Int)] 35 by rw [hW3]; exact RowIs.new _ _ _)
      have HW3 := hide hW3.symm
      have T3 := hide ((unhide hT).keep b3)
      have z3 : wr.heap.size < W3.heap.size := (unhide R3).lt
      clear hW3 b3
      go_upto_region 6 with fail
      refine wp_worldD (unhide HW3) ?_
      clear c0 c1 c2 c3 c4 hzb HW3
      by_cases hq0 : wt.length = 0
      · have no := hide (show ¬ (∃ D, Steps (ksOf (l.map (·.t))) 0 [1] (l.map (·.t)).length [] D) from by
          rintro ⟨D2, h2⟩
          have e : wt = [] := List.eq_nil_of_length_eq_zero hq0
          have h1 := (unhide T3).st
          rw [e] at h1
          obtain ⟨D3, h3, _⟩ := h1.det h2 (by rw [List.length_map]; omega)
          have := h3.empty.1
          rw [List.length_map] at this
          omega)
        have B3 := hide (unhide T3).bel
        rw [hq0]
        clear T3 hT R3 hwa
        go_wp2_with fail
        go_ret2
        exact ⟨.inl ⟨unhide no, _, _, _, rfl⟩, unhide B3⟩
      · obtain ⟨q, hq⟩ : ∃ q, wt.length = q + 1 := ⟨wt.length - 1, by omega⟩
        obtain ⟨g, rfl, hg0, hgl⟩ := hwa (by omega)
        have hqt : q < wt.length := by omega
        obtain ⟨p, hp⟩ : ∃ p, wt[q] = p := ⟨_, rfl⟩
        have cq : W3.cell? ⟨g, q, none⟩ = some (.int .i64 p) := by
          rw [(unhide T3).ow.cellAt q (by omega), List.getElem?_map, List.getElem?_eq_getElem hqt, hp]; rfl
        have gz3 : g < W3.heap.size := by omega
        have e1 : IntKind.i64.wrap (((q + 1 : Nat) : Int) - 1) = (q : Int) := by rw [IntKind.wrap_i64]; have := (unhide T3).wl; omega
        have q2000 : q ≤ 2000 := by have := (unhide T3).wl; omega
        have pl : ps.length ≤ 60 := by rw [(unhide hT).len]; omega
        have HP := hide hp
        have HQ := hide hq
        have OW := hide (show W3.ownsRow w.heap.size 3 1 (.slice (some ⟨g, 0, none⟩) (q + 1) wc) (q + 1) (wt.map iV) by have := (unhide T3).ow; rwa [hq] at this)
        have OP := hide (unhide T3).op
        have PB := hide (fun k hk => ((unhide hT).op.lt k hk).2)
        have BB := hide (unhide T3).bel.size
        have ow1 : Hid (∀ u ∈ [Value.int .i64 p], u.oneCell' = true) := hide (fun u hu => by simp at hu; subst hu; rfl)
        have nw1 := hide (new1 W3 (.int .i64 p) 3 W3.heap.size rfl)
        rw [hq]
        clear hp hq hwa
        go_wp2_with (at_builtin; refine wpList_append_own_at _ rfl _ _ 54 rfl w.heap.size 3 i0 (.int .i64 0) 1 8 Tryd.underlying54 (unhide HI).1 (unhide HI).2.1 (unhide HI).2.2.1 (unhide HI).2.2.2 rfl (by decide) _ _ _ rfl ((unhide OP).alloc _) ⟨W3.heap.size, 0, none⟩ 1 1 [.int .i64 p] rfl rfl (unhide nw1) (unhide ow1) (by unfold maxLen; omega) (by omega) (by have := unhide BB; simp; omega) ?_; intro v4 w4 hown4 hgrow4 _ hat4)
        have Z4 := hide hgrow4.size
        have R4 := (show RowIs w4 wr.heap.size _ 35 from rowG4 ((unhide R3).keep (bAl (Below.refl _ _) _)) hgrow4 (fun e => by have := unhide PB _ e.symm; omega))
        have k4 := R4.at (o := 4) (v := .int .i64 (n : Int)) rfl
        have z4 := R4.lt
        have OW4 := hide (((unhide OW).alloc (.cells #[.int .i64 p] 3)).kept hgrow4 (.inr (fun e => (unhide T3).ap g (e.symm.trans rfl) rfl)))
        obtain ⟨X, hX⟩ : ∃ X, X = Obj.cells #[.int .i64 (i : Int)] 3 := ⟨_, rfl⟩
        have B40 := hide (bAl (Below.refl w4.heap.size w4) (.cells #[.int .i64 (i : Int)] 3))
        have q1 := hide (repeat_any w4.heap.size (i : Int) n ((w4.alloc (.cells #[.int .i64 (i : Int)] 3)).drew) hn20 ((RowIs.keep (RowIs.new w4 #[.int .i64 (i : Int)] 3) (Below.refl _ _).drew).at (o := 0) rfl) (by simp))
        have q2 := hide (repeat_any w4.heap.size (i : Int) n (w4.drew.alloc (.cells #[.int .i64 (i : Int)] 3)) hn20 ((RowIs.new w4.drew #[.int .i64 (i : Int)] 3).at (o := 0) rfl) (by simp))
        have SC := hide (fun (w' : World) (hb : Below w4.heap.size w4 w') => cellB hb z4 k4)
        have OWC := hide (own_cut (m := q) (unhide OW4) (by omega))
        have ow2 : Hid (∀ u ∈ List.replicate n (Value.int .i64 (i : Int)), u.oneCell' = true) := hide (fun u hu => by rw [List.eq_of_mem_replicate hu]; rfl)
        have BS4 := hide (show w.heap.size ≤ w4.heap.size by have h1 := unhide BB; have h2 := unhide Z4; simp at h2; omega)
        have hcp := own_cap (unhide OW4)
        have hc0 : (0 : Int) ≤ (q : Int) := by omega
        have GNE := hide (show g < wr.heap.size from hgl)
        have hc1 : (q : Int) ≤ (wc : Int) := by omega
        clear R4 cq e1 hX hcp
        go_region_held3 (fun w' => w'.cell? ⟨wr.heap.size, 4, none⟩ = some (.int .i64 (n : Int)))
          (first
            | exact unhide SC _ (Below.refl _ _).drew
            | exact unhide SC _ (unhide B40).drew
            | exact unhide SC _ (bAl (Below.refl _ _).drew _)
            | exact unhide s7
            | exact unhide SC _ (unhide B46))
          (first
            | (go_at_call 51; (first | with_reducible refine (unhide q1).mono ?_ | with_reducible refine (unhide q2).mono ?_); rintro e w6 ⟨⟨g6, rfl, hg6, hr6⟩, hb6⟩; have B46 := hide (show Below w4.heap.size w4 w6 by (first | exact bTr (unhide B40).drew hb6 | exact bTr (bAl (Below.refl _ _).drew _) hb6)); have R6 := hide hr6; clear hg6 hr6 hb6)
            | (refine step_app_at _ (by rfl) (.tmp 31) (.tmp 36) _ (by rfl) w.heap.size 3 i0 _ 1 8 Tryd.underlying54 (unhide HI).1 (unhide HI).2.1 (unhide HI).2.2.1 (unhide HI).2.2.2 rfl (by decide) (.slice (some ⟨g, 0, none⟩) q wc) q ((wt.map iV).take q) (by rfl) (own_kD (unhide OWC) (unhide B46)) ⟨g6, 0, none⟩ n n (List.replicate n (.int .i64 (i : Int))) (by rfl) (by simp) (newsR (unhide R6)) (unhide ow2) (by unfold maxLen; omega) (by omega) (by have h1 := (unhide B46).size; have h2 := unhide BS4; omega) ?_; intro v7 w7 hown7 hgrow7 hat7; have s7 := hide (show w7.cell? ⟨wr.heap.size, 4, none⟩ = some (.int .i64 (n : Int)) from cellG (unhide SC w6 (unhide B46)) hgrow7 (by have h1 := (unhide B46).size; omega) (by intro e; have e2 : wr.heap.size = g := Option.some.inj e; have h1 := unhide GNE; omega))))
        have hN := (unhide T3).more (w4 := w4) (w6 := w6) (w7 := w7) (v4 := v4) (v7 := v7) (by rw [List.length_map]; exact hk') (unhide HN) hn20 (unhide HQ) rfl _ (by rw [unhide HP]; exact hown4) hgrow4 hat4 (unhide B46) hown7 hgrow7 hat7
        go_wp2_with fail
        exact ⟨⟨i + 1, _, _, _, by omega, by go_num, hide hN⟩, by simp [Go.RowKit.intOf]; omega⟩
    · have em : i = len := by omega
      subst em
      have T := unhide hT
      by_cases hq0 : wt.length = 0
      · have yes := hide (show Steps (ksOf (l.map (·.t))) 0 [1] (l.map (·.t)).length [] D from by
          have h1 := T.st
          rw [List.eq_nil_of_length_eq_zero hq0] at h1
          rw [List.length_map, ← unhide HL]
          exact h1)
        have PL := hide (show ps.length = (l.map (·.t)).length by rw [List.length_map, ← unhide HL]; exact T.len)
        rw [hq0]
        clear T
        go_wp2_with fail
        go_ret2
        exact ⟨.inr ⟨ps, D, _, rfl, unhide yes, (unhide hT).par, unhide PL, (unhide hT).op⟩, (unhide hT).bel⟩
      · have no := hide (show ¬ (∃ D, Steps (ksOf (l.map (·.t))) 0 [1] (l.map (·.t)).length [] D) from by
          rintro ⟨D2, h2⟩
          rw [List.length_map, ← unhide HL] at h2
          obtain ⟨D3, h3, _⟩ := T.st.det h2 (Nat.le_refl _)
          have := h3.same.1
          have := congrArg List.length this
          simp at this
          exact hq0 (by rw [← this]))
        have ne : ((wt.length : Int) == 0) = false := beq_eq_false_iff_ne.2 (by omega)
        obtain ⟨pa, pc, rfl, _⟩ := own_form1 T.op
        clear T
        go_wp2_with fail
        go_ret2
        exact ⟨.inl ⟨unhide no, _, _, _, rfl⟩, (unhide hT).bel⟩
end Go.Proofs.YtdhpfhpegaekpaaDoor.V
