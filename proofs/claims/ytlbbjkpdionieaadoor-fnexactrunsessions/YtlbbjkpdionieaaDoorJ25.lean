/- LPb, LPc, LPd, one behind the other. -/
import Derived.Test.YtlbbjkpdionieaaDoorJ24
import Derived.Laws.OwnMore
import Derived.Laws.AppendOwn
import Derived.Conc.EventLaws
import Derived.Deep.RegionWith
/- Sessions: the program's state in memory. -/
namespace Go.Proofs.YtlbbjkpdionieaaDoor
set_option linter.unusedSimpArgs false
set_option linter.unusedVariables false
set_option maxRecDepth 20000
open Go.RowKit Go.Maps


def StI (T : TypeId) : Prop := T = 82 ∨ T = 97 ∨ T = 84
/-- What the state is made of: rows of its types, maps, channels. -/
def StO : Obj → Prop
  | .cells _ T _ => StI T
  | .map .. => True
  | .chan .. => True
  | _ => False
theorem ChanAt.same {w w' : World} {k : Nat} {c : Bool} (h : ChanAt w k c) (hb : w'.heap[k]? = w.heap[k]?) : ChanAt w' k c := by
  obtain ⟨s, r, e⟩ := h
  exact ⟨s, r, hb.trans e⟩
theorem ChanAt.lt {w : World} {k : Nat} {c : Bool} (h : ChanAt w k c) : k < w.heap.size := by
  obtain ⟨s, r, e⟩ := h
  exact (Array.getElem?_eq_some_iff.1 e).1
theorem ChanAt.is {w : World} {k : Nat} {c : Bool} (h : ChanAt w k c) : ∃ o, w.heap[k]? = some o ∧ StO o := by
  obtain ⟨s, r, e⟩ := h
  exact ⟨_, e, trivial⟩
theorem ChanAt.uniq {w : World} {k : Nat} {c d : Bool} (h : ChanAt w k c) (h2 : ChanAt w k d) : c = d := by
  obtain ⟨s, r, e⟩ := h
  obtain ⟨s2, r2, e2⟩ := h2
  rw [e] at e2
  cases e2
  rfl
theorem KM.is {w : World} {b n : Nat} {m : ByteArray → Option Value} (h : KM Tryd.prog 9 Value.string w b n m) : ∃ es cl, w.heap[b]? = some (.map es cl) := by
  obtain ⟨D, ⟨es, clock, h1, _⟩, _⟩ := h
  exact ⟨_, _, h1⟩
noncomputable def idMap (x : SsT) (Q : List BlT) (y : ByteArray) : Option Value := (findI (idsL x.list) y).map fun j => .pointer (some ⟨(Q.getD j ⟨0, 0, 0, false, false⟩).sb, 0, none⟩)
def ptrV (Q : List BlT) : List Value := Q.map fun q => .pointer (some ⟨q.sb, 0, none⟩)
structure PsAt (w0 w : World) (b : Nat) (ka : Option Addr) (kl kc : Nat) (x : SsT) (mo me : Nat) (ov : Value) (Q : List BlT) (M : ByteArray → Option Value) (n : Nat) : Prop where
  box : RowIs w b (vC ka kl kc x mo me ov) 82
  len : Q.length = x.list.length
  ses : ∀ i (h : i < Q.length) (h' : i < x.list.length), RowIs w Q[i].sb (sC x.list[i] Q[i]) 97
  che : ∀ i (h : i < Q.length), ChanAt w Q[i].en Q[i].ce
  chv : ∀ i (h : i < Q.length), ChanAt w Q[i].ev Q[i].cd
  dd : ∀ i (h : i < Q.length) (h' : i < x.list.length), x.list[i].dead = (Q[i].ce || Q[i].cd)
  sbA : ∀ i j (hi : i < Q.length) (hj : j < Q.length), i ≠ j → Q[i].sb ≠ Q[j].sb
  enA : ∀ i j (hi : i < Q.length) (hj : j < Q.length), i ≠ j → Q[i].en ≠ Q[j].en
  nv : ∀ i j (hi : i < Q.length) (hj : j < Q.length), Q[i].en ≠ Q[j].ev
  idm : KM Tryd.prog 9 Value.string w mo x.given (idMap x Q)
  evm : KM Tryd.prog 9 Value.string w me n M
  m1 : ∀ u v, M u = some v → ∃ c, v = .chan (some c) ∧ ChanAt w c false ∧ b < c ∧ ∀ i (h : i < Q.length), Q[i].en ≠ c
  m2 : ∀ i (h : i < Q.length) (h' : i < x.list.length), Q[i].cd = true ∨ M x.list[i].user = some (.chan (some Q[i].ev))
  m3 : ∀ u u' v, M u = some v → M u' = some v → u = u'
  own : w.ownsRow (b + 1) 84 1 ov Q.length (ptrV Q)
  lows : ∀ i (h : i < Q.length), b < Q[i].sb ∧ b < Q[i].en ∧ b < Q[i].ev
  lom : w0.heap.size ≤ mo ∧ w0.heap.size ≤ me ∧ mo ≠ me ∧ mo ≠ b ∧ me ≠ b ∧ w0.heap.size ≤ b
  bel : Below w0.heap.size w0 w
  lo : w0.heap.size ≤ b
section
variable {w0 w : World} {b : Nat} {ka : Option Addr} {kl kc : Nat} {x : SsT} {mo me : Nat} {ov : Value} {Q : List BlT} {M : ByteArray → Option Value} {n : Nat}
theorem PsAt.other {w' : World} (h : PsAt w0 w b ka kl kc x mo me ov Q M n) (hb : ∀ (g : Nat) (o : Obj), w.heap[g]? = some o → StO o → w'.heap[g]? = w.heap[g]?) (hB : Below w0.heap.size w0 w') : PsAt w0 w' b ka kl kc x mo me ov Q M n := by
  have row : ∀ {g : Nat} {C : Array Value} {T : TypeId}, StI T → RowIs w g C T → RowIs w' g C T := fun {g C T} hT hr => by
    unfold RowIs at *
    rw [hb g _ hr hT]; exact hr
  have ch : ∀ {k : Nat} {c : Bool}, ChanAt w k c → ChanAt w' k c := fun {k c} hc => by
    obtain ⟨o, e, hS⟩ := hc.is
    exact hc.same (hb k o e hS)
  have km : ∀ {k m : Nat} {m' : ByteArray → Option Value}, KM Tryd.prog 9 Value.string w k m m' → KM Tryd.prog 9 Value.string w' k m m' := fun {k m m'} hk => by
    obtain ⟨es, cl, e⟩ := hk.is
    exact hk.block (hb k _ e trivial)
  refine ⟨row (.inl rfl) h.box, h.len, fun i hi hi' => row (.inr (.inl rfl)) (h.ses i hi hi'), fun i hi => ch (h.che i hi), fun i hi => ch (h.chv i hi), h.dd, h.sbA, h.enA, h.nv, km h.idm, km h.evm, fun u v hv => ?_, h.m2, h.m3, own_blk h.own (fun g hg => ?_), h.lows, h.lom, hB, h.lo⟩
  · obtain ⟨c, a1, a2, a3, a4⟩ := h.m1 u v hv
    exact ⟨c, a1, ch a2, a3, a4⟩
  · obtain ⟨C, hC⟩ := own_is h.own hg
    exact hb g _ hC (.inr (.inr rfl))
theorem PsAt.keep {w' : World} (h : PsAt w0 w b ka kl kc x mo me ov Q M n) (hb : Below w.heap.size w w') : PsAt w0 w' b ka kl kc x mo me ov Q M n :=
  h.other (fun g o e _ => hb.block g (Array.getElem?_eq_some_iff.1 e).1) (bTr h.bel hb)
theorem PsAt.setOut {q : Nat} {C : Array Value} {T : TypeId} (h : PsAt w0 w b ka kl kc x mo me ov Q M n) (hr : RowIs w q C T) (hT : ¬ StI T) (hq : w0.heap.size ≤ q) (o : Nat) (u : Value) : PsAt w0 (w.setCell ⟨q, o, none⟩ u) b ka kl kc x mo me ov Q M n :=
  h.other (fun g o' hg hS => heap_setCell_other w ⟨q, o, none⟩ g u (by
    show g ≠ q
    rintro rfl
    unfold RowIs at hr
    rw [hr] at hg
    cases hg
    exact hT hS)) (h.bel.setCell hq _)
theorem PsAt.tch {w' : World} (h : PsAt w0 w b ka kl kc x mo me ov Q M n) (hb : Below w.heap.size w w') : Tch StI w0.heap.size w w' := Tch.of hb h.bel.size
theorem PsAt.okQ (h : PsAt w0 w b ka kl kc x mo me ov Q M n) {j : Nat} (hj : j < Q.length) : j < x.list.length := by rw [← h.len]; exact hj
/-- A store into the box. -/
theorem PsAt.setBox (h : PsAt w0 w b ka kl kc x mo me ov Q M n) (o : Nat) (u : Value) (x' : SsT) (e : (vC ka kl kc x mo me ov).setIfInBounds o u = vC ka kl kc x' mo me ov) (hl : x'.list = x.list) (hg : x.given ≤ x'.given) : PsAt w0 (w.setCell ⟨b, o, none⟩ u) b ka kl kc x' mo me ov Q M n := by
  have ne : ∀ g, g ≠ b → (w.setCell ⟨b, o, none⟩ u).heap[g]? = w.heap[g]? := fun g hg => heap_setCell_other w ⟨b, o, none⟩ g u hg
  have ch : ∀ {k : Nat} {c : Bool}, ChanAt w k c → ChanAt (w.setCell ⟨b, o, none⟩ u) k c := fun {k c} hc => hc.same (ne k (by
    rintro rfl
    obtain ⟨s, r, e⟩ := hc
    have q := h.box
    unfold RowIs at q
    rw [q] at e
    cases e))
  have im : idMap x' Q = idMap x Q := by funext y; unfold idMap; rw [hl]
  refine ⟨by rw [← e]; exact h.box.set o u, by rw [hl]; exact h.len, fun i hi hi' => ?_, fun i hi => ch (h.che i hi), fun i hi => ch (h.chv i hi), fun i hi hi' => ?_, h.sbA, h.enA, h.nv, ?_, h.evm.block (ne _ (by have := h.lom; omega)), fun a v hv => ?_, fun i hi hi' => ?_, h.m3, own_blk h.own (fun g hg => ne g (by have := (h.own.lt g hg).1; omega)), h.lows, h.lom, h.bel.setCell h.lo _, h.lo⟩
  · have q := h.ses i hi (by rw [← hl]; exact hi')
    have q2 : x'.list[i] = x.list[i]'(by rw [← hl]; exact hi') := by simp only [hl]
    rw [q2]
    exact q.setOther _ (by have := (h.lows i hi).1; omega)
  · have q := h.dd i hi (by rw [← hl]; exact hi')
    simp only [hl]; exact q
  · rw [im]
    exact (h.idm.block (ne _ (by have := h.lom; omega))).more hg
  · obtain ⟨c, a1, a2, a3, a4⟩ := h.m1 a v hv
    exact ⟨c, a1, ch a2, a3, a4⟩
  · have q := h.m2 i hi (by rw [← hl]; exact hi')
    simp only [hl]; exact q
theorem PsAt.tchB (h : PsAt w0 w b ka kl kc x mo me ov Q M n) (o : Nat) (u : Value) : Tch StI w0.heap.size w (w.setCell ⟨b, o, none⟩ u) := Tch.setS h.box h.lo (.inl rfl) _ _
/-- A store into session j (not its Id's list, not dead). -/
theorem PsAt.setX (h : PsAt w0 w b ka kl kc x mo me ov Q M n) {j : Nat} (hj : j < Q.length) (o : Nat) (u : Value) (s' : SxT) (e : (sC (x.list[j]'(h.okQ hj)) Q[j]).setIfInBounds o u = sC s' Q[j]) (hids : s'.ids = (x.list[j]'(h.okQ hj)).ids) (hu : s'.user = (x.list[j]'(h.okQ hj)).user) (hd : s'.dead = (x.list[j]'(h.okQ hj)).dead) :
    PsAt w0 (w.setCell ⟨Q[j].sb, o, none⟩ u) b ka kl kc { x with list := x.list.set j s' } mo me ov Q M n := by
  have hjx := h.okQ hj
  have rj := h.ses j hj hjx
  have ne : ∀ g, g ≠ Q[j].sb → (w.setCell ⟨Q[j].sb, o, none⟩ u).heap[g]? = w.heap[g]? := fun g hg => heap_setCell_other w ⟨Q[j].sb, o, none⟩ g u hg
  have ch : ∀ {k : Nat} {c : Bool}, ChanAt w k c → ChanAt (w.setCell ⟨Q[j].sb, o, none⟩ u) k c := fun {k c} hc => hc.same (ne k (by
    rintro rfl
    obtain ⟨s, r, e⟩ := hc
    unfold RowIs at rj
    rw [rj] at e
    cases e))
  have km : ∀ {k m : Nat} {m' : ByteArray → Option Value}, KM Tryd.prog 9 Value.string w k m m' → KM Tryd.prog 9 Value.string (w.setCell ⟨Q[j].sb, o, none⟩ u) k m m' := fun {k m m'} hk => hk.block (ne _ (by
    rintro rfl
    obtain ⟨es, cl, e⟩ := hk.is
    unfold RowIs at rj
    rw [rj] at e
    cases e))
  have il : idsL (x.list.set j s') = idsL x.list := by
    unfold idsL
    rw [List.map_set, hids]
    have : (x.list.map (·.ids)).set j (x.list[j]).ids = x.list.map (·.ids) := by
      have q : (x.list[j]).ids = (x.list.map (·.ids))[j]'(by simpa using hjx) := by simp
      rw [q, List.set_getElem_self]
    exact this
  have im : idMap { x with list := x.list.set j s' } Q = idMap x Q := by funext y; unfold idMap; rw [il]
  have gg : ∀ i (hi : i < x.list.length), (x.list.set j s')[i]'(by simpa using hi) = if i = j then s' else x.list[i] := by
    intro i hi
    rw [List.getElem_set]
    by_cases e : j = i
    · subst e; simp
    · rw [if_neg e, if_neg (fun q => e q.symm)]
  refine ⟨h.box.setOther _ (by have := (h.lows j hj).1; omega), by simpa using h.len, fun i hi hi' => ?_, fun i hi => ch (h.che i hi), fun i hi => ch (h.chv i hi), fun i hi hi' => ?_, h.sbA, h.enA, h.nv, by rw [im]; exact km h.idm, km h.evm, fun a v hv => ?_, fun i hi hi' => ?_, h.m3, own_blk h.own (fun g hg => ne g ?_), h.lows, h.lom, h.bel.setCell (by have := (h.lows j hj).1; have := h.lo; show w0.heap.size ≤ Q[j].sb; omega) _, h.lo⟩
  · have hix : i < x.list.length := h.okQ hi
    show RowIs _ _ (sC ((x.list.set j s')[i]'(by simpa using hix)) Q[i]) _
    rw [gg i hix]
    by_cases e2 : i = j
    · subst e2
      rw [if_pos rfl, ← e]
      exact rj.set o u
    · rw [if_neg e2]
      exact (h.ses i hi hix).setOther _ (h.sbA i j hi hj e2)
  · have hix : i < x.list.length := h.okQ hi
    show ((x.list.set j s')[i]'(by simpa using hix)).dead = _
    rw [gg i hix]
    by_cases e2 : i = j
    · subst e2
      rw [if_pos rfl, hd]
      exact h.dd i hi hix
    · rw [if_neg e2]
      exact h.dd i hi hix
  · obtain ⟨c, a1, a2, a3, a4⟩ := h.m1 a v hv
    exact ⟨c, a1, ch a2, a3, a4⟩
  · have hix : i < x.list.length := h.okQ hi
    show _ ∨ M ((x.list.set j s')[i]'(by simpa using hix)).user = _
    rw [gg i hix]
    by_cases e2 : i = j
    · subst e2
      rw [if_pos rfl, hu]
      exact h.m2 i hi hix
    · rw [if_neg e2]
      exact h.m2 i hi hix
  · rintro rfl
    obtain ⟨C, hC⟩ := own_is h.own hg
    unfold RowIs at rj
    rw [rj] at hC
    simp at hC
theorem PsAt.tchX (h : PsAt w0 w b ka kl kc x mo me ov Q M n) {j : Nat} (hj : j < Q.length) (o : Nat) (u : Value) : Tch StI w0.heap.size w (w.setCell ⟨Q[j].sb, o, none⟩ u) := Tch.setS (h.ses j hj (h.okQ hj)) (by have := (h.lows j hj).1; have := h.lo; omega) (.inr (.inl rfl)) _ _
end
def PsEnd (w0 w : World) (b : Nat) (ka : Option Addr) (kl kc : Nat) (x' : SsT) (mo me : Nat) (w' : World) : Prop := (∃ ov' Q' M' n', n' ≤ x'.given ∧ PsAt w0 w' b ka kl kc x' mo me ov' Q' M' n') ∧ Tch StI w0.heap.size w w'
end Go.Proofs.YtlbbjkpdionieaaDoor
/- Sessions: a session dies. -/
namespace Go.Proofs.YtlbbjkpdionieaaDoor
set_option linter.unusedSimpArgs false
set_option linter.unusedVariables false
set_option maxRecDepth 20000
open Go.RowKit Go.Maps


def closeW (w : World) (k s r : Nat) : World := { w with heap := w.heap.setIfInBounds k (.chan 0 #[] true s r false) }
theorem closeW_same (w : World) (k s r : Nat) (h : k < w.heap.size) : (closeW w k s r).heap[k]? = some (.chan 0 #[] true s r false) := by
  unfold closeW
  simp [h]
theorem closeW_other (w : World) (k s r g : Nat) (h : g ≠ k) : (closeW w k s r).heap[g]? = w.heap[g]? := by
  unfold closeW
  rw [Array.getElem?_setIfInBounds, if_neg (fun e => h e.symm)]
theorem closeW_size (w : World) (k s r : Nat) : (closeW w k s r).heap.size = w.heap.size := by unfold closeW; simp
theorem Below.close {B : Nat} {a w : World} (h : Below B a w) {k : Nat} (hk : B ≤ k) (s r : Nat) : Below B a (closeW w k s r) :=
  ⟨h.os, h.tape, h.output, by rw [closeW_size]; exact h.size, fun g hg => by rw [closeW_other w k s r g (by omega)]; exact h.block g hg⟩
theorem Tch.close {S : TypeId → Prop} {b k : Nat} {w : World} {c : Bool} (hc : ChanAt w k c) (hb : b ≤ k) (s r : Nat) : Tch S b w (closeW w k s r) :=
  ⟨Below.close (Below.refl _ _) hb s r, fun g C T f hg _ => by
    rw [closeW_other w k s r g (by
      rintro rfl
      obtain ⟨s2, r2, e⟩ := hc
      rw [e] at hg
      cases hg)]
    exact hg⟩
section
variable {w0 w : World} {b : Nat} {ka : Option Addr} {kl kc : Nat} {x : SsT} {mo me : Nat} {ov : Value} {Q : List BlT} {M : ByteArray → Option Value} {n : Nat}
theorem PsAt.closeEn (h : PsAt w0 w b ka kl kc x mo me ov Q M n) {j : Nat} (hj : j < Q.length) (s r : Nat) :
    PsAt w0 (closeW w Q[j].en s r) b ka kl kc { x with list := x.list.set j { (x.list[j]'(h.okQ hj)) with dead := true } } mo me ov (Q.set j { Q[j] with ce := true }) M n := by
  have hjx := h.okQ hj
  have cj := h.che j hj
  have row : ∀ {g : Nat} {C : Array Value} {T : TypeId}, RowIs w g C T → RowIs (closeW w Q[j].en s r) g C T := fun {g C T} hr => by
    unfold RowIs at *
    rw [closeW_other _ _ _ _ _ (by
      rintro rfl
      obtain ⟨s2, r2, e⟩ := cj
      rw [e] at hr
      cases hr)]
    exact hr
  have km : ∀ {k m : Nat} {m' : ByteArray → Option Value}, KM Tryd.prog 9 Value.string w k m m' → KM Tryd.prog 9 Value.string (closeW w Q[j].en s r) k m m' := fun {k m m'} hk => hk.block (closeW_other _ _ _ _ _ (by
    rintro rfl
    obtain ⟨es, cl, e⟩ := hk.is
    obtain ⟨s2, r2, e2⟩ := cj
    rw [e2] at e
    cases e))
  have ch : ∀ {k : Nat} {c : Bool}, k ≠ Q[j].en → ChanAt w k c → ChanAt (closeW w Q[j].en s r) k c := fun {k c} hk hc => hc.same (closeW_other _ _ _ _ _ hk)
  have il : idsL (x.list.set j { (x.list[j]) with dead := true }) = idsL x.list := by
    unfold idsL
    rw [List.map_set]
    have q : ({ (x.list[j]) with dead := true } : SxT).ids = (x.list.map (·.ids))[j]'(by simpa using hjx) := by simp
    rw [q, List.set_getElem_self]
  have gx : ∀ i (hi : i < x.list.length), (x.list.set j { (x.list[j]) with dead := true })[i]'(by simpa using hi) = if i = j then { (x.list[i]) with dead := true } else x.list[i] := by
    intro i hi
    rw [List.getElem_set]
    by_cases e : j = i
    · subst e; simp
    · rw [if_neg e, if_neg (fun q => e q.symm)]
  have gq : ∀ i (hi : i < Q.length), (Q.set j { Q[j] with ce := true })[i]'(by simpa using hi) = if i = j then { Q[i] with ce := true } else Q[i] := by
    intro i hi
    rw [List.getElem_set]
    by_cases e : j = i
    · subst e; simp
    · rw [if_neg e, if_neg (fun q => e q.symm)]
  have gb : ∀ i (hi : i < Q.length), ((Q.set j { Q[j] with ce := true })[i]'(by simpa using hi)).sb = Q[i].sb ∧ ((Q.set j { Q[j] with ce := true })[i]'(by simpa using hi)).en = Q[i].en ∧ ((Q.set j { Q[j] with ce := true })[i]'(by simpa using hi)).ev = Q[i].ev ∧ ((Q.set j { Q[j] with ce := true })[i]'(by simpa using hi)).cd = Q[i].cd := by
    intro i hi
    rw [gq i hi]
    split <;> exact ⟨rfl, rfl, rfl, rfl⟩
  have pv : ptrV (Q.set j { Q[j] with ce := true }) = ptrV Q := by
    unfold ptrV
    rw [List.map_set]
    have q : (Value.pointer (some ⟨({ Q[j] with ce := true } : BlT).sb, 0, none⟩)) = (Q.map fun q => (.pointer (some ⟨q.sb, 0, none⟩) : Value))[j]'(by simpa using hj) := by simp
    rw [q, List.set_getElem_self]
  have im : idMap { x with list := x.list.set j { (x.list[j]) with dead := true } } (Q.set j { Q[j] with ce := true }) = idMap x Q := by
    funext y
    unfold idMap
    rw [il]
    cases e : findI (idsL x.list) y with
    | none => rfl
    | some i =>
      have hi : i < Q.length := by
        have q := (findK_some e).1
        rw [h.len]
        unfold idsL at q
        simpa using q
      simp only [Option.map_some]
      rw [List.getD_eq_getElem?_getD, List.getD_eq_getElem?_getD, List.getElem?_eq_getElem (by simpa using hi), List.getElem?_eq_getElem hi]
      simp only [Option.getD_some]
      rw [(gb i hi).1]
  refine ⟨row h.box, by simpa using h.len, fun i hi hi' => ?_, fun i hi => ?_, fun i hi => ?_, fun i hi hi' => ?_, fun i k hi hk hn => ?_, fun i k hi hk hn => ?_, fun i k hi hk => ?_, by rw [im]; exact km h.idm, km h.evm, fun a v hv => ?_, fun i hi hi' => ?_, h.m3, ?_, fun i hi => ?_, h.lom, Below.close h.bel (by have := (h.lows j hj).2.1; have := h.lo; omega) s r, h.lo⟩
  · have h1 : i < Q.length := by simpa using hi
    have h2 : i < x.list.length := h.okQ h1
    obtain ⟨a1, a2, a3, a4⟩ := gb i h1
    show RowIs _ _ (sC ((x.list.set j { (x.list[j]) with dead := true })[i]'(by simpa using h2)) _) _
    rw [a1, gx i h2]
    have q : sC (if i = j then { (x.list[i]) with dead := true } else x.list[i]) ((Q.set j { Q[j] with ce := true })[i]'hi) = sC x.list[i] Q[i] := by
      unfold sC
      rw [a2, a3]
      split <;> rfl
    rw [q]
    exact row (h.ses i h1 h2)
  · have h1 : i < Q.length := by simpa using hi
    rw [gq i h1]
    by_cases e : i = j
    · subst e
      rw [if_pos rfl]
      exact ⟨s, r, closeW_same w _ s r cj.lt⟩
    · rw [if_neg e]
      exact ch (h.enA i j h1 hj e) (h.che i h1)
  · have h1 : i < Q.length := by simpa using hi
    rw [(gb i h1).2.2.1, (gb i h1).2.2.2]
    exact ch (fun q => h.nv j i hj h1 q.symm) (h.chv i h1)
  · have h1 : i < Q.length := by simpa using hi
    have h2 : i < x.list.length := h.okQ h1
    show ((x.list.set j { (x.list[j]) with dead := true })[i]'(by simpa using h2)).dead = _
    rw [gx i h2, gq i h1]
    by_cases e : i = j
    · rw [if_pos e, if_pos e]; rfl
    · rw [if_neg e, if_neg e]
      exact h.dd i h1 h2
  · have h1 : i < Q.length := by simpa using hi
    have h2 : k < Q.length := by simpa using hk
    rw [(gb i h1).1, (gb k h2).1]
    exact h.sbA i k h1 h2 hn
  · have h1 : i < Q.length := by simpa using hi
    have h2 : k < Q.length := by simpa using hk
    rw [(gb i h1).2.1, (gb k h2).2.1]
    exact h.enA i k h1 h2 hn
  · have h1 : i < Q.length := by simpa using hi
    have h2 : k < Q.length := by simpa using hk
    rw [(gb i h1).2.1, (gb k h2).2.2.1]
    exact h.nv i k h1 h2
  · obtain ⟨c, a1, a2, a3, a4⟩ := h.m1 a v hv
    refine ⟨c, a1, ch (fun q => a4 j hj q.symm) a2, a3, fun i hi => ?_⟩
    have h1 : i < Q.length := by simpa using hi
    rw [(gb i h1).2.1]
    exact a4 i h1
  · have h1 : i < Q.length := by simpa using hi
    have h2 : i < x.list.length := h.okQ h1
    show _ ∨ M ((x.list.set j { (x.list[j]) with dead := true })[i]'(by simpa using h2)).user = _
    rw [(gb i h1).2.2.1, (gb i h1).2.2.2, gx i h2]
    have q : (if i = j then { (x.list[i]) with dead := true } else x.list[i]).user = x.list[i].user := by split <;> rfl
    rw [q]
    exact h.m2 i h1 h2
  · rw [pv, List.length_set]
    exact own_blk h.own (fun g hg => by
      obtain ⟨C, hC⟩ := own_is h.own hg
      exact closeW_other _ _ _ _ _ (by
        rintro rfl
        obtain ⟨s2, r2, e⟩ := cj
        rw [e] at hC
        cases hC))
  · have h1 : i < Q.length := by simpa using hi
    rw [(gb i h1).1, (gb i h1).2.1, (gb i h1).2.2.1]
    exact h.lows i h1
theorem set_dead (l : List SxT) (j : Nat) (hj : j < l.length) (hd : l[j].dead = true) : l.set j { l[j] with dead := true } = l := by
  have e : ({ l[j] with dead := true } : SxT) = l[j] := by
    have : ∀ s : SxT, s.dead = true → { s with dead := true } = s := fun s hs => by cases s; simp at hs; subst hs; rfl
    exact this _ hd
  rw [e, List.set_getElem_self]
set_option maxHeartbeats 4000000 in
theorem die_any (h : PsAt w0 w b ka kl kc x mo me ov Q M n) (hn : n ≤ x.given) {j : Nat} (hj : j < Q.length) :
    Calls Tryd.prog 53 #[.pointer (some ⟨Q[j].sb, 0, none⟩)] w fun e w' => e = .returned (.tuple #[]) ∧ PsEnd w0 w b ka kl kc { x with list := x.list.set j { (x.list[j]'(h.okQ hj)) with dead := true } } mo me w' := by
  have hjx := h.okQ hj
  have rj := h.ses j hj hjx
  have qd := hide (isDead_any Q[j].sb Q[j].en Q[j].ev Q[j].ce Q[j].cd w (rj.at (o := 6) rfl) (rj.at (o := 7) rfl) (h.che j hj) (h.chv j hj))
  rw [← h.dd j hj hjx] at qd
  have HH := hide h
  cases hde : x.list[j].dead with
  | true =>
    rw [hde] at qd
    have ES := hide (set_dead x.list j hjx hde)
    clear rj
    go_enter Tryd.func53, Tryd.ntmps53
    go_wp2_with fail
    refine (unhide qd).mono ?_
    rintro e w1 ⟨rfl, hb1⟩
    go_wp2_with fail
    go_end0
    refine ⟨rfl, ⟨ov, Q, M, n, hn, ?_⟩, (unhide HH).tch hb1⟩
    have q := (unhide HH).keep hb1
    rw [unhide ES]
    exact q
  | false =>
    rw [hde] at qd
    clear rj
    go_enter Tryd.func53, Tryd.ntmps53
    go_wp2_with fail
    refine (unhide qd).mono ?_
    rintro e w1 ⟨rfl, hb1⟩
    have H1 := hide ((unhide HH).keep hb1)
    have T1 := hide ((unhide HH).tch hb1)
    have c6 := ((unhide H1).ses j hj hjx).at (o := 6) (v := .chan (some Q[j].en)) rfl
    have cz := ((unhide H1).ses j hj hjx).lt
    have hce : Q[j].ce = false := by
      have q := (unhide HH).dd j hj hjx
      rw [hde] at q
      cases e : Q[j].ce with
      | false => rfl
      | true => rw [e] at q; simp at q
    have cc := (unhide H1).che j hj
    rw [hce] at cc
    obtain ⟨s, r, hc⟩ := cc
    have hz := (Array.getElem?_eq_some_iff.1 hc).1
    have CL := hide ((unhide H1).closeEn hj s r)
    have TL := hide (Tch.close (S := StI) ((unhide H1).che j hj) (by have := ((unhide H1).lows j hj).2.1; have := (unhide H1).lo; omega : w0.heap.size ≤ Q[j].en) s r)
    clear qd
    have hcl := Go.run_close_open (P := Tryd.prog) (w := w1) #[94] 0 hc
    go_wp2_with fail
    go_end0
    exact ⟨rfl, ⟨ov, _, M, n, hn, unhide CL⟩, (unhide T1).trans (unhide TL)⟩
end
end Go.Proofs.YtlbbjkpdionieaaDoor
/- Sessions: an Id is given. -/
namespace Go.Proofs.YtlbbjkpdionieaaDoor
set_option linter.unusedSimpArgs false
set_option linter.unusedVariables false
set_option maxRecDepth 20000
open Go.RowKit Go.Maps

theorem put_run {P : Program} {k : TypeId} {α : Type} {enc : α → Value} {ok : α → Prop} [DecidableEq α] {w : World} (K : KeyKind P k enc ok) {t e : TypeId} (ht : P.underlying t = some (.map k e)) {b n : Nat} {M : α → Option Value} (hk : KM P k enc w b n M) (hn : n < maxLen) (y : α) (c : Value) (hy : ok y) :
    ∃ w', (Instr.mapUpdate t (.map (some b)) (enc y) c).run P w = .ok () w' ∧ KM P k enc w' b (n + 1) (updK M y c) ∧ w.grownBy w' (some b) ∧ w'.heap.size = w.heap.size := by
  obtain ⟨D, hown, hD⟩ := hk
  obtain ⟨kl, hkl⟩ := K.key y hy
  obtain ⟨w', hrun, h1, h2⟩ := hown.store K.law ht hn hkl (d := .held c) (ps := []) (show hvR c = _ from rfl)
  refine ⟨w', hrun, ⟨_, h1, fun y' kl' hk' => ?_⟩, h2.grown, (by obtain ⟨es, cl, es', cl', _, rfl⟩ := h2; simp [ChangeMaps.setBlock])⟩
  by_cases e : y' = y
  · subst e
    obtain rfl : kl' = kl := by rw [hkl] at hk'; exact (Option.some.inj hk').symm
    have hu : updK M y' c y' = some c := by simp [updK]
    rw [hu]
    refine ⟨Maps.has_put_same hown.isMap (K.law.key hkl) _, fun c' hc' z => ?_⟩
    cases hc'
    exact Maps.atKey_put_same hown.isMap (K.law.key hkl) _ z
  · have hne : kl' ≠ kl := fun e2 => e (K.inj _ _ (K.law.inj hk' (by rw [e2]; exact hkl)))
    have hu : updK M y c y' = M y' := by simp [updK, e]
    rw [hu, Maps.has_put_other hne]
    refine ⟨(hD y' kl' hk').1, fun c' hc' z => ?_⟩
    rw [Maps.atKey_put_other hne]
    exact (hD y' kl' hk').2 c' hc' z

/-- All but three blocks and what is new is as it was. -/
structure But3 (p q r : Nat) (w w' : World) : Prop where
  os : w'.os = w.os
  tape : w'.tape = w.tape
  output : w'.output = w.output
  size : w.heap.size ≤ w'.heap.size
  block : ∀ k, k < w.heap.size → k ≠ p → k ≠ q → k ≠ r → w'.heap[k]? = w.heap[k]?
theorem But3.refl (p q r : Nat) (w : World) : But3 p q r w w := ⟨rfl, rfl, rfl, Nat.le_refl _, fun _ _ _ _ _ => rfl⟩
theorem But3.trans {p q r : Nat} {x y z : World} (h : But3 p q r x y) (k : But3 p q r y z) : But3 p q r x z :=
  ⟨k.os.trans h.os, k.tape.trans h.tape, k.output.trans h.output, Nat.le_trans h.size k.size, fun i hi h1 h2 h3 => (k.block i (Nat.lt_of_lt_of_le hi h.size) h1 h2 h3).trans (h.block i hi h1 h2 h3)⟩
theorem But3.of {p q r : Nat} {w w' : World} (h : Below w.heap.size w w') : But3 p q r w w' := ⟨h.os, h.tape, h.output, h.size, fun k hk _ _ _ => h.block k hk⟩
theorem But3.setP {p q r : Nat} (w : World) (o : Nat) (v : Value) : But3 p q r w (w.setCell ⟨p, o, none⟩ v) := ⟨rfl, rfl, rfl, by simp [World.setCell], fun k _ h1 _ _ => heap_setCell_other w ⟨p, o, none⟩ k v h1⟩
theorem But3.setQ {p q r : Nat} (w : World) (o : Nat) (v : Value) : But3 p q r w (w.setCell ⟨q, o, none⟩ v) := ⟨rfl, rfl, rfl, by simp [World.setCell], fun k _ _ h1 _ => heap_setCell_other w ⟨q, o, none⟩ k v h1⟩
theorem But3.grown {p q r : Nat} {w w' : World} (h : w.grownBy w' (some r)) : But3 p q r w w' := ⟨h.os, h.tape, h.output, h.size, fun k hk _ _ h1 => h.block k hk (fun e => h1 (Option.some.inj e))⟩
theorem goodSess : goodName sessB = true := by decide +kernel
theorem idT (kl : Nat) (key : List UInt8) (n : Nat) (hk : kl ≤ 64) (h1 : 1 ≤ n) (h2 : n ≤ 1000000) : D.hdT kl key sessB (n : Int) = idOf key n := by
  unfold D.hdT idOf
  rw [if_pos ⟨hk, goodSess, by omega, by omega⟩]
set_option maxHeartbeats 8000000 in
theorem giveId_low (b sb mo me n : Nat) (ka : Option Addr) (kl kc : Nat) (x : SsT) (ov : Value) (s0 : ByteArray) (c1 c2 c3 c4 c5 c6 c7 : Value) (Mo : ByteArray → Option Value) (w : World) (hv : RowIs w b (vC ka kl kc x mo me ov) 82) (hs : RowIs w sb #[.string s0, c1, c2, c3, c4, c5, c6, c7] 97) (hne : sb ≠ b) (hm : KM Tryd.prog 9 Value.string w mo n Mo) (hn : n ≤ 1000) (hmo : mo ≠ b ∧ mo ≠ sb)
    (hk : D.SlB w b ka kl x.key) (hkb : kl ≤ 64) (hg : x.given ≤ 1000) (hM : ∀ w', But3 b sb mo w w' → D.Mults w') (hT : ∀ w', But3 b sb mo w w' → Tab w') :
    Calls Tryd.prog 52 #[.pointer (some ⟨b, 0, none⟩), .pointer (some ⟨sb, 0, none⟩)] w fun e w' => e = .returned (.tuple #[]) ∧ RowIs w' b (vC ka kl kc { x with given := x.given + 1 } mo me ov) 82 ∧ RowIs w' sb #[.string (idOf x.key (x.given + 1)), c1, c2, c3, c4, c5, c6, c7] 97 ∧ KM Tryd.prog 9 Value.string w' mo (n + 1) (updK Mo (idOf x.key (x.given + 1)) (.pointer (some ⟨sb, 0, none⟩))) ∧ But3 b sb mo w w' := by
  have HM := hide hM
  have HT := hide hT
  have HN := hide hmo
  have NE := hide hne
  obtain ⟨W1, hW1⟩ : ∃ W, W = w.setCell ⟨b, 4, none⟩ (.int .i64 ((x.given + 1 : Nat) : Int)) := ⟨_, rfl⟩
  have a4 := hv.at (o := 4) (v := .int .i64 (x.given : Int)) rfl
  have b4 := hv.froz 4
  have bz := hv.lt
  have R1 := hide (show RowIs W1 b (vC ka kl kc { x with given := x.given + 1 } mo me ov) 82 by rw [hW1]; exact hv.set 4 _)
  have S1 := hide (show RowIs W1 sb #[.string s0, c1, c2, c3, c4, c5, c6, c7] 97 by rw [hW1]; exact hs.setOther _ hne)
  have K1 := hide (show D.SlB W1 b ka kl x.key by rw [hW1]; exact hk.keepB ((Below.refl b w).setCell (Nat.le_refl _) _))
  have M1 := hide (show KM Tryd.prog 9 Value.string W1 mo n Mo by rw [hW1]; exact hm.block (heap_setCell_other w ⟨b, 4, none⟩ mo _ hmo.1))
  have B1 := hide (show But3 b sb mo w W1 by rw [hW1]; exact But3.setP w 4 _)
  have e1 : IntKind.i64.wrap ((x.given : Int) + 1) = ((x.given + 1 : Nat) : Int) := by rw [IntKind.wrap_i64]; omega
  have HW := hide hW1.symm
  clear hW1 hv hs hk hm hM hT hmo hne
  have bd : Below W1.heap.size W1 W1.drew := (Below.refl _ _).drew
  have BD := hide bd
  have qc := hide (D.iHandleOf_any ka kl kc x.key sessB ((x.given + 1 : Nat) : Int) W1.drew (by omega) (by decide) (((unhide K1).keep bd).mono (by have := (unhide R1).lt; show b ≤ W1.heap.size; omega)) (by omega) (by omega) (unhide HM _ ((unhide B1).trans (But3.of bd))) (unhide HT _ ((unhide B1).trans (But3.of bd))))
  rw [idT kl x.key (x.given + 1) hkb (by omega) (by omega)] at qc
  unfold sessB at qc
  have c0 := (unhide R1).at (o := 0) (v := .slice ka kl kc) rfl
  have c4' := (unhide R1).at (o := 4) (v := .int .i64 ((x.given + 1 : Nat) : Int)) rfl
  have cz := (unhide R1).lt
  have IS := hide (idOf_size x.key (x.given + 1) (by omega))
  clear bd
  generalize idOf x.key (x.given + 1) = I at *
  generalize ((x.given + 1 : Nat) : Int) = G at *
  go_enter Tryd.func52, Tryd.ntmps52
  go_upto_region 1 with fail
  refine wp_world (unhide HW) ?_
  clear HW a4 b4 bz
  go_region_with (go_at_call 63; (with_reducible refine (unhide qc).mono ?_); rintro e w3 ⟨rfl, hb3⟩; have S3 := hide (((unhide S1).keep (unhide BD)).keep hb3); have R3 := hide (((unhide R1).keep (unhide BD)).keep hb3); have M3 := hide ((unhide M1).keepB (bTr (unhide BD) hb3) (unhide M1).lt); have B3 := hide ((unhide B1).trans (But3.of (bTr (unhide BD) hb3))); have s0c := (unhide S3).at (o := 0) (v := .string s0) rfl; have s0f := (unhide S3).froz 0; have s0z := (unhide S3).lt; clear hb3)
  all_goals
    obtain ⟨W4, hW4⟩ : ∃ W, W = w3.setCell ⟨sb, 0, none⟩ (.string I) := ⟨_, rfl⟩
    have HW4 := hide hW4.symm
    have S4 := hide (show RowIs W4 sb #[.string I, c1, c2, c3, c4, c5, c6, c7] 97 by rw [hW4]; exact (unhide S3).set 0 _)
    have R4 := hide (show RowIs W4 b (vC ka kl kc { x with given := x.given + 1 } mo me ov) 82 by rw [hW4]; exact (unhide R3).setOther _ (fun e => unhide NE e.symm))
    have M4 := hide (show KM Tryd.prog 9 Value.string W4 mo n Mo by rw [hW4]; exact (unhide M3).block (heap_setCell_other w3 ⟨sb, 0, none⟩ mo _ (unhide HN).2))
    have B4 := hide (show But3 b sb mo w W4 by rw [hW4]; exact (unhide B3).trans (But3.setQ w3 0 _))
    have BD4 : Below W4.heap.size W4 W4.drew := (Below.refl _ _).drew
    obtain ⟨w5, hrun5, hk5, hg5, hs5⟩ := put_run (t := 78) kStr Tryd.underlying78 ((unhide M4).keepB BD4 (unhide M4).lt) (by unfold maxLen; omega) I (.pointer (some ⟨sb, 0, none⟩)) (by have := unhide IS; show I.size ≤ maxLen; unfold maxLen; omega)
    have o5 := (unhide R4).at (o := 5) (v := .map (some mo)) rfl
    have oz := (unhide R4).lt
    have t0 := (unhide S4).at (o := 0) (v := .string I) rfl
    have tz := (unhide S4).lt
    have K5 := hide hk5
    have G5 := hide hg5
    clear hW4 s0c s0f s0z c0 c4' cz hk5 hg5
    go_upto_region 2 with fail
    refine wp_world (unhide HW4) ?_
    go_region
    go_wp2_with fail
    go_end0
    have nb : some b ≠ some mo := fun e => (unhide HN).1 (Option.some.inj e).symm
    have ns : some sb ≠ some mo := fun e => (unhide HN).2 (Option.some.inj e).symm
    exact ⟨rfl, row_grown ((unhide R4).keep BD4) (unhide G5) nb, row_grown ((unhide S4).keep BD4) (unhide G5) ns, unhide K5, ((unhide B4).trans (But3.of BD4)).trans (But3.grown (unhide G5))⟩
end Go.Proofs.YtlbbjkpdionieaaDoor
