/- LSh, LSi, LSj, one behind the other. -/
import Derived.Test.YtppkgcedkdeccaaDoorJ19
import Derived.Test.YtppkgcedkdeccaaDoorJ18
import Derived.Laws.OwnMore
import Derived.Laws.AppendOwn
import Derived.BigQuiet
/- Sessions: the specification's state in memory. -/
namespace Go.Proofs.YtppkgcedkdeccaaDoor
set_option linter.unusedSimpArgs false
set_option linter.unusedVariables false
set_option maxRecDepth 20000
open Go.RowKit Go.Maps


theorem own_blk {w w' : World} {base e size n : Nat} {v : Value} {xs : List Value} (h : w.ownsRow base e size v n xs) (hb : ∀ g, v.ownBlock = some g → w'.heap[g]? = w.heap[g]?) : w'.ownsRow base e size v n xs := by
  refine ⟨h.1, h.2.imp_right ?_⟩
  rintro ⟨g, cap, cur, rfl, hg, hh, hc⟩
  exact ⟨g, cap, cur, rfl, hg, by rw [hb g rfl]; exact hh, hc⟩
theorem own_lo {w : World} {base e size n : Nat} {v : Value} {xs : List Value} {base' : Nat} (h : w.ownsRow base e size v n xs) (hb : base' ≤ base) : w.ownsRow base' e size v n xs := by
  refine ⟨h.1, h.2.imp id ?_⟩
  rintro ⟨g, cap, cur, r1, r2, r3⟩
  exact ⟨g, cap, cur, r1, Nat.le_trans hb r2, r3⟩
theorem own_is {w : World} {base e size n : Nat} {v : Value} {xs : List Value} (h : w.ownsRow base e size v n xs) {g : Nat} (hg : v.ownBlock = some g) : ∃ C, w.heap[g]? = some (.cells C e (0, 0)) := by
  rcases h.2 with ⟨rfl, _⟩ | ⟨g', cap, cur, rfl, _, hh, _⟩
  · cases hg
  · cases hg; exact ⟨_, hh⟩
/-- All below b is as it was, and each row of a type that is none of the state's. -/
structure Tch (S : TypeId → Prop) (b : Nat) (w w' : World) : Prop where
  bel : Below b w w'
  blk : ∀ (k : Nat) (C : Array Value) (T : TypeId) (f : Nat × Nat), w.heap[k]? = some (Obj.cells C T f) → ¬ S T → w'.heap[k]? = some (Obj.cells C T f)
theorem Tch.refl (S : TypeId → Prop) (b : Nat) (w : World) : Tch S b w w := ⟨Below.refl _ _, fun _ _ _ _ h _ => h⟩
theorem Tch.trans {S : TypeId → Prop} {b : Nat} {w w1 w2 : World} (h : Tch S b w w1) (k : Tch S b w1 w2) : Tch S b w w2 := ⟨h.bel.trans k.bel, fun g C T f hg hs => k.blk g C T f (h.blk g C T f hg hs) hs⟩
theorem Tch.of {S : TypeId → Prop} {b : Nat} {w w' : World} (h : Below w.heap.size w w') (hb : b ≤ w.heap.size) : Tch S b w w' :=
  ⟨⟨h.os, h.tape, h.output, h.size, fun g hg => h.block g (by omega)⟩, fun k C T f hk _ => by rw [h.block k (Array.getElem?_eq_some_iff.1 hk).1]; exact hk⟩
theorem Tch.setS {S : TypeId → Prop} {b g : Nat} {w : World} {C : Array Value} {T : TypeId} (hr : RowIs w g C T) (hb : b ≤ g) (hS : S T) (o : Nat) (v : Value) : Tch S b w (w.setCell ⟨g, o, none⟩ v) :=
  ⟨(Below.refl _ _).setCell hb _, fun k C' T' f hk hn => by
    have hne : k ≠ g := by
      rintro rfl
      unfold RowIs at hr
      rw [hr] at hk
      cases hk
      exact hn hS
    rw [heap_setCell_other w ⟨g, o, none⟩ k v hne]; exact hk⟩
theorem Tch.own {S : TypeId → Prop} {b : Nat} {w w' : World} {base e size n : Nat} {v : Value} {xs : List Value} (h : Tch S b w w') (ho : w.ownsRow base e size v n xs) (hS : ¬ S e) : w'.ownsRow base e size v n xs :=
  own_blk ho fun g hg => by
    obtain ⟨C, hC⟩ := own_is ho hg
    rw [hC]; exact h.blk g C e _ hC hS
theorem Tch.row {S : TypeId → Prop} {b : Nat} {w w' : World} {g : Nat} {C : Array Value} {T : TypeId} (h : Tch S b w w') (hr : RowIs w g C T) (hS : ¬ S T) : RowIs w' g C T := h.blk g C T _ hr hS
theorem Tch.grown {S : TypeId → Prop} {b : Nat} {w w' : World} {base e size n : Nat} {v : Value} {xs : List Value} (hg : w.grownBy w' v.ownBlock) (ho : w.ownsRow base e size v n xs) (hb : b ≤ base) (hz : b ≤ w.heap.size) (hS : S e) : Tch S b w w' :=
  ⟨⟨hg.os, hg.tape, hg.output, hg.size, fun k hk => hg.block k (by omega) (fun e2 => by have := (ho.lt k e2.symm).1; omega)⟩, fun k C T f hk hn => by
    rw [hg.block k (Array.getElem?_eq_some_iff.1 hk).1 (fun e2 => by
      obtain ⟨C', hC'⟩ := own_is ho e2.symm
      rw [hC'] at hk
      cases hk
      exact hn hS)]
    exact hk⟩

/-- A session as it lies: with the block and the room of its Ids. -/
structure PxT where
  s : SxT
  g : Nat
  c : Nat
def encP (p : PxT) : List Value := [.slice (some ⟨p.g, 0, none⟩) p.s.ids.length p.c, .string p.s.user, .string p.s.device, .int .i64 p.s.level, .int .i64 p.s.login, .int .i64 p.s.last, .bool p.s.dead]
theorem xV_enc (p : PxT) : (xV (some ⟨p.g, 0, none⟩) p.s.ids.length p.c p.s).toList = encP p := rfl
def PV (P : List PxT) : List Value := P.flatMap encP
theorem PV_len : ∀ P : List PxT, (PV P).length = P.length * 7
  | [] => rfl
  | p :: P => by
    have e : PV (p :: P) = encP p ++ PV P := by simp [PV]
    have h : (encP p).length = 7 := rfl
    rw [e, List.length_append, PV_len P, h, List.length_cons]; omega
theorem PV_get : ∀ (P : List PxT) (i : Nat) (h : i < P.length) (j : Nat) (v : Value), (encP P[i])[j]? = some v → (PV P)[i * 7 + j]? = some v
  | [], i, h, _, _, _ => absurd h (Nat.not_lt_zero _)
  | c :: P, 0, _, j, v, hv => by
    have hj := (List.getElem?_eq_some_iff.1 hv).1
    have e : PV (c :: P) = encP c ++ PV P := by simp [PV]
    rw [e, List.getElem?_append_left (by simpa using hj)]
    simpa using hv
  | c :: P, i + 1, h, j, v, hv => by
    have e : PV (c :: P) = encP c ++ PV P := by simp [PV]
    have hl : (encP c).length = 7 := rfl
    rw [e, List.getElem?_append_right (by rw [hl]; omega), hl, show (i + 1) * 7 + j - 7 = i * 7 + j by omega]
    exact PV_get P i (by simpa using h) j v (by simpa using hv)
theorem PV_set : ∀ (P : List PxT) (i : Nat) (h : i < P.length) (j : Nat) (u : Value) (p : PxT), j < 7 → encP p = (encP P[i]).set j u → (PV P).set (i * 7 + j) u = PV (P.set i p)
  | [], i, h, _, _, _, _, _ => absurd h (Nat.not_lt_zero _)
  | c :: P, 0, _, j, u, p, hj, e => by
    have e1 : PV (c :: P) = encP c ++ PV P := by simp [PV]
    have e2 : PV ((c :: P).set 0 p) = encP p ++ PV P := by simp [PV]
    rw [e1, e2, e]
    simp only [Nat.zero_mul, Nat.zero_add, List.getElem_cons_zero]
    rw [List.set_append_left _ _ (by show j < 7; exact hj)]
  | c :: P, i + 1, h, j, u, p, hj, e => by
    have e1 : PV (c :: P) = encP c ++ PV P := by simp [PV]
    have e2 : PV ((c :: P).set (i + 1) p) = encP c ++ PV (P.set i p) := by simp [PV]
    have hl : (encP c).length = 7 := rfl
    rw [e1, e2, List.set_append_right _ _ (by rw [hl]; omega), hl, show (i + 1) * 7 + j - 7 = i * 7 + j by omega, PV_set P i (by simpa using h) j u p hj (by simpa using e)]
theorem PV_snoc (P : List PxT) (p : PxT) : PV (P ++ [p]) = PV P ++ encP p := by simp [PV]
def St (T : TypeId) : Prop := T = 76 ∨ T = 79 ∨ T = 9
/-- The state x lies in box b. -/
structure SpAt (w0 w : World) (b : Nat) (ka : Option Addr) (kl kc : Nat) (x : SsT) (v : Value) (P : List PxT) : Prop where
  box : RowIs w b (cfV ka kl kc x v) 76
  lst : x.list = P.map (·.s)
  row : w.ownsRow (b + 1) 79 7 v P.length (PV P)
  ids : ∀ i (h : i < P.length), w.ownsRow (b + 1) 9 1 (.slice (some ⟨P[i].g, 0, none⟩) P[i].s.ids.length P[i].c) P[i].s.ids.length (P[i].s.ids.map Value.string)
  ap : ∀ i j (hi : i < P.length) (hj : j < P.length), i ≠ j → P[i].g ≠ P[j].g
  bel : Below w0.heap.size w0 w
  lo : w0.heap.size ≤ b
section
variable {w0 w : World} {b : Nat} {ka : Option Addr} {kl kc : Nat} {x : SsT} {v : Value} {P : List PxT}
theorem SpAt.keep {w' : World} (h : SpAt w0 w b ka kl kc x v P) (hb : Below w.heap.size w w') : SpAt w0 w' b ka kl kc x v P :=
  ⟨h.box.keep hb, h.lst, own_blk h.row (fun g hg => hb.block g (h.row.lt g hg).2), fun i hi => own_blk (h.ids i hi) (fun g hg => hb.block g ((h.ids i hi).lt g hg).2), h.ap, bTr h.bel hb, h.lo⟩
/-- A store into the box. -/
theorem SpAt.setBox (h : SpAt w0 w b ka kl kc x v P) (o : Nat) (u : Value) (x' : SsT) (v' : Value) (e : (cfV ka kl kc x v).setIfInBounds o u = cfV ka kl kc x' v') (hl : x'.list = x.list) (hv : v' = v) : SpAt w0 (w.setCell ⟨b, o, none⟩ u) b ka kl kc x' v' P := by
  subst hv
  have ne : ∀ g, b + 1 ≤ g → (w.setCell ⟨b, o, none⟩ u).heap[g]? = w.heap[g]? := fun g hg => heap_setCell_other w ⟨b, o, none⟩ g u (show g ≠ b by omega)
  exact ⟨by rw [← e]; exact h.box.set o u, hl.trans h.lst, own_blk h.row (fun g hg => ne g (h.row.lt g hg).1), fun i hi => own_blk (h.ids i hi) (fun g hg => ne g ((h.ids i hi).lt g hg).1), h.ap, h.bel.setCell h.lo _, h.lo⟩
theorem SpAt.form (h : SpAt w0 w b ka kl kc x v P) (hn : 0 < P.length) : ∃ g cap, v = .slice (some ⟨g, 0, none⟩) P.length cap ∧ g < w.heap.size ∧ b < g := by
  obtain ⟨g, cap, e⟩ : ∃ g cap, v = .slice (some ⟨g, 0, none⟩) P.length cap := by
    rcases h.row.2 with ⟨_, e⟩ | ⟨g, cap, _, rfl, _⟩
    · omega
    · exact ⟨g, cap, rfl⟩
  have := h.row.lt g (by rw [e]; rfl)
  exact ⟨g, cap, e, this.2, by omega⟩
theorem SpAt.cells {g cap : Nat} (h : SpAt w0 w b ka kl kc x (.slice (some ⟨g, 0, none⟩) P.length cap) P) {i : Nat} (hi : i < P.length) {j : Nat} {u : Value} (e : (encP P[i])[j]? = some u) : w.cell? ⟨g, i * 7 + j, none⟩ = some u := by
  have hj : j < 7 := (List.getElem?_eq_some_iff.1 e).1
  rw [h.row.cellAt _ (by have : i + 1 ≤ P.length := hi; omega)]
  exact PV_get P i hi j u e
/-- A store into a session's cell (no Ids). -/
theorem SpAt.setX {g cap : Nat} (h : SpAt w0 w b ka kl kc x (.slice (some ⟨g, 0, none⟩) P.length cap) P) {i : Nat} (hi : i < P.length) (j : Nat) (u : Value) (s' : SxT) (hj : j < 7) (e : encP ⟨s', P[i].g, P[i].c⟩ = (encP P[i]).set j u) (hids : s'.ids = P[i].s.ids) :
    SpAt w0 (w.setCell ⟨g, i * 7 + j, none⟩ u) b ka kl kc { x with list := x.list.set i s' } (.slice (some ⟨g, 0, none⟩) P.length cap) (P.set i ⟨s', P[i].g, P[i].c⟩) := by
  have hg := h.row.lt g rfl
  have st := h.row.stored (i * 7 + j) u
  rw [PV_set P i hi j u _ hj e] at st
  have ne : ∀ k, k ≠ g → (w.setCell ⟨g, i * 7 + j, none⟩ u).heap[k]? = w.heap[k]? := fun k hk => heap_setCell_other w ⟨g, i * 7 + j, none⟩ k u hk
  have ty : ∀ (k : Nat) (C : Array Value) (T : TypeId) (f : Nat × Nat), w.heap[k]? = some (Obj.cells C T f) → T ≠ 79 → k ≠ g := by
    rintro k C T f hk hT rfl
    obtain ⟨C', hC'⟩ := own_is h.row (g := k) rfl
    rw [hC'] at hk
    cases hk
    exact hT rfl
  have gg : ∀ k (hk : k < P.length), (P.set i ⟨s', P[i].g, P[i].c⟩)[k]'(by simpa using hk) = if k = i then ⟨s', P[i].g, P[i].c⟩ else P[k] := by
    intro k hk
    rw [List.getElem_set]
    by_cases e : i = k
    · subst e; simp
    · rw [if_neg e, if_neg (fun q => e q.symm)]
  have gG : ∀ k (hk : k < P.length), ((P.set i ⟨s', P[i].g, P[i].c⟩)[k]'(by simpa using hk)).g = P[k].g ∧ ((P.set i ⟨s', P[i].g, P[i].c⟩)[k]'(by simpa using hk)).c = P[k].c ∧ ((P.set i ⟨s', P[i].g, P[i].c⟩)[k]'(by simpa using hk)).s.ids = P[k].s.ids := by
    intro k hk
    rw [gg k hk]
    by_cases e : k = i
    · subst e; rw [if_pos rfl]; exact ⟨rfl, rfl, hids⟩
    · rw [if_neg e]; exact ⟨rfl, rfl, rfl⟩
  have bx : RowIs (w.setCell ⟨g, i * 7 + j, none⟩ u) b (cfV ka kl kc x (.slice (some ⟨g, 0, none⟩) P.length cap)) 76 := h.box.setOther u (by omega)
  refine ⟨bx, ?_, by simpa using st.1, ?_, ?_, h.bel.setCell (by show w0.heap.size ≤ g; have := h.lo; omega) _, h.lo⟩
  · show x.list.set i s' = _
    rw [h.lst, List.map_set]
  · intro k hk
    have hk' : k < P.length := by simpa using hk
    obtain ⟨a1, a2, a3⟩ := gG k hk'
    rw [a1, a2, a3]
    refine own_blk (h.ids k hk') (fun q hq => ?_)
    obtain ⟨C, hC⟩ := own_is (h.ids k hk') hq
    exact ne q (ty q C 9 _ hC (by decide))
  · intro k l hk hl hn
    have hk' : k < P.length := by simpa using hk
    have hl' : l < P.length := by simpa using hl
    rw [(gG k hk').1, (gG l hl').1]
    exact h.ap k l hk' hl' hn
theorem SpAt.tchX {g cap : Nat} (h : SpAt w0 w b ka kl kc x (.slice (some ⟨g, 0, none⟩) P.length cap) P) (j : Nat) (u : Value) : Tch St b w (w.setCell ⟨g, j, none⟩ u) := by
  obtain ⟨C, hC⟩ := own_is h.row (g := g) rfl
  exact Tch.setS (show RowIs w g C 79 from hC) (by have := (h.row.lt g rfl).1; omega) (.inr (.inl rfl)) _ _
theorem SpAt.tchB (h : SpAt w0 w b ka kl kc x v P) (o : Nat) (u : Value) : Tch St b w (w.setCell ⟨b, o, none⟩ u) := Tch.setS h.box (Nat.le_refl _) (.inl rfl) _ _
theorem SpAt.tch {w' : World} (h : SpAt w0 w b ka kl kc x v P) (hb : Below w.heap.size w w') : Tch St b w w' := Tch.of hb (by have := h.box.lt; omega)
end
def SpEnd (w0 w : World) (b : Nat) (ka : Option Addr) (kl kc : Nat) (x' : SsT) (w' : World) : Prop := (∃ v' P', SpAt w0 w' b ka kl kc x' v' P') ∧ Tch St b w w'
end Go.Proofs.YtppkgcedkdeccaaDoor
/- Sessions: the specification's do: what is no event, what is past. -/
namespace Go.Proofs.YtppkgcedkdeccaaDoor
set_option linter.unusedSimpArgs false
set_option linter.unusedVariables false
set_option maxRecDepth 20000
open Go.RowKit Go.Maps


section
variable {w0 w : World} {b : Nat} {ka : Option Addr} {kl kc : Nat} {x : SsT} {v : Value} {P : List PxT}
theorem SpAt.other {w' : World} (h : SpAt w0 w b ka kl kc x v P) (hb : ∀ (g : Nat) (C : Array Value) (T : TypeId), w.heap[g]? = some (Obj.cells C T (0, 0)) → St T → w'.heap[g]? = w.heap[g]?) (hB : Below w0.heap.size w0 w') : SpAt w0 w' b ka kl kc x v P := by
  refine ⟨?_, h.lst, own_blk h.row (fun g hg => ?_), fun i hi => own_blk (h.ids i hi) (fun g hg => ?_), h.ap, hB, h.lo⟩
  · have := h.box
    unfold RowIs at *
    rw [hb b _ _ this (.inl rfl)]; exact this
  · obtain ⟨C, hC⟩ := own_is h.row hg
    exact hb g C _ hC (.inr (.inl rfl))
  · obtain ⟨C, hC⟩ := own_is (h.ids i hi) hg
    exact hb g C _ hC (.inr (.inr rfl))
theorem SpAt.setOut {q : Nat} {C : Array Value} {T : TypeId} (h : SpAt w0 w b ka kl kc x v P) (hr : RowIs w q C T) (hT : ¬ St T) (hq : w0.heap.size ≤ q) (o : Nat) (u : Value) : SpAt w0 (w.setCell ⟨q, o, none⟩ u) b ka kl kc x v P :=
  h.other (fun g C' T' hg hS => heap_setCell_other w ⟨q, o, none⟩ g u (by
    show g ≠ q
    rintro rfl
    unfold RowIs at hr
    rw [hr] at hg
    cases hg
    exact hT hS)) (h.bel.setCell hq _)
end
theorem Tch.setNew {S : TypeId → Prop} {b q : Nat} {w w' : World} (h : Tch S b w w') (hq : w.heap.size ≤ q) (hb : b ≤ q) (o : Nat) (u : Value) : Tch S b w (w'.setCell ⟨q, o, none⟩ u) :=
  ⟨h.bel.setCell hb _, fun k C T f hk hn => by
    have hl := (Array.getElem?_eq_some_iff.1 hk).1
    rw [heap_setCell_other w' ⟨q, o, none⟩ k u (show k ≠ q by omega)]
    exact h.blk k C T f hk hn⟩
theorem sErr_c (n : Int) (w : World) : Calls Tryd.prog 54 #[.int .i64 n] w fun e w' => e = .returned (.agg #[.int .i64 n, .string ⟨#[]⟩, .string ⟨#[]⟩, .int .i64 0]) ∧ Below w.heap.size w w' := sErr_any n w
/-- The end of an event: what is told, the state behind it. -/
def DoQ (w0 w : World) (b : Nat) (ka : Option Addr) (kl kc : Nat) (x' : SsT) (r : SessReplyT) (e : Ending) (w' : World) : Prop := e = .returned (.agg (encR r)) ∧ SpEnd w0 w b ka kl kc x' w'
def rp0 : Array Value := #[.int .i64 0, .string ⟨#[]⟩, .string ⟨#[]⟩, .int .i64 0]
theorem SpAt.end4 {w0 w w4 : World} {b : Nat} {ka : Option Addr} {kl kc : Nat} {x' : SsT} {v : Value} {P : List PxT} {f1 f2 : ByteArray} {n f3 : Int}
    (h : SpAt w0 w4 b ka kl kc x' v P) (hr : RowIs w4 (w.heap.size + 1) rp0 31) (ht : Tch St b w w4) (hb : b < w.heap.size) :
    RowIs ((((w4.setCell ⟨w.heap.size + 1, 0, none⟩ (.int .i64 n)).setCell ⟨w.heap.size + 1, 1, none⟩ (.string f1)).setCell ⟨w.heap.size + 1, 2, none⟩ (.string f2)).setCell ⟨w.heap.size + 1, 3, none⟩ (.int .i64 f3)) (w.heap.size + 1) (encR ⟨n, f1, f2, f3⟩) 31
    ∧ SpEnd w0 w b ka kl kc x' ((((w4.setCell ⟨w.heap.size + 1, 0, none⟩ (.int .i64 n)).setCell ⟨w.heap.size + 1, 1, none⟩ (.string f1)).setCell ⟨w.heap.size + 1, 2, none⟩ (.string f2)).setCell ⟨w.heap.size + 1, 3, none⟩ (.int .i64 f3)) := by
  have hlo := h.lo
  have r1 := hr.set 0 (.int .i64 n)
  have r2 := r1.set 1 (.string f1)
  have r3 := r2.set 2 (.string f2)
  have r4 := r3.set 3 (.int .i64 f3)
  have nS : ¬ St 31 := by unfold St; decide
  refine ⟨r4, ⟨v, P, ?_⟩, ?_⟩
  · exact (((h.setOut hr nS (by omega) _ _).setOut r1 nS (by omega) _ _).setOut r2 nS (by omega) _ _).setOut r3 nS (by omega) _ _
  · exact (((ht.setNew (by omega) (by omega) _ _).setNew (by omega) (by omega) _ _).setNew (by omega) (by omega) _ _).setNew (by omega) (by omega) _ _
set_option maxHeartbeats 8000000 in
theorem do_unfit {w0 : World} {b : Nat} {ka : Option Addr} {kl kc : Nat} {x : SsT} {v : Value} {P : List PxT} (k t : Int) (u d i : ByteArray) (w : World) (h : SpAt w0 w b ka kl kc x v P) (hu : u.size ≤ maxLen) (hd : d.size ≤ maxLen) (hi : i.size ≤ maxLen) (hf : fitE k t u d i = false) :
    Calls Tryd.prog 47 #[.pointer (some ⟨b, 0, none⟩), .agg #[.int .i64 k, .int .i64 t, .string u, .string d, .string i]] w (DoQ w0 w b ka kl kc (x) (errR 1)) := by
  have hbz := h.box.lt
  have nSE : ¬ St 34 := by unfold St; decide
  have nSR : ¬ St 31 := by unfold St; decide
  obtain ⟨W1, hW1⟩ : ∃ W, W = w.alloc (.cells #[.int .i64 k, .int .i64 t, .string u, .string d, .string i] 34) := ⟨_, rfl⟩
  obtain ⟨W2, hW2⟩ : ∃ W, W = W1.alloc (.cells #[.int .i64 0, .string ⟨#[]⟩, .string ⟨#[]⟩, .int .i64 0] 31) := ⟨_, rfl⟩
  have z1 : W1.heap.size = w.heap.size + 1 := by rw [hW1]; simp
  have b1 : Below w.heap.size w W1 := by rw [hW1]; exact bAl (Below.refl _ _) _
  have b2 : Below W1.heap.size W1 W2 := by rw [hW2]; exact bAl (Below.refl _ _) _
  have RE := hide ((show RowIs W1 w.heap.size #[.int .i64 k, .int .i64 t, .string u, .string d, .string i] 34 by rw [hW1]; exact RowIs.new _ _ _).keep b2)
  have RP := hide (show RowIs W2 (w.heap.size + 1) rp0 31 by rw [hW2, ← z1]; exact RowIs.new _ _ _)
  have H := hide ((h.keep b1).keep b2)
  have TC := hide (h.tch (bTr b1 b2))
  rw [hW1] at hW2
  have HW2 := hide hW2.symm
  have HLO := hide h.lo
  clear hW1 hW2 z1 b1 b2 h
  have qb := hide (sBad_any k t u d i W2 hu hd)
  rw [hf] at qb
  simp only [Bool.not_true, Bool.not_false] at qb
  have e0 := (unhide RE).at (o := 0) (v := .int .i64 k) rfl
  have e1 := (unhide RE).at (o := 1) (v := .int .i64 t) rfl
  have e2 := (unhide RE).at (o := 2) (v := .string u) rfl
  have e3 := (unhide RE).at (o := 3) (v := .string d) rfl
  have e4 := (unhide RE).at (o := 4) (v := .string i) rfl
  have ez := (unhide RE).lt
  go_enter Tryd.func47, Tryd.ntmps47
  go_upto_region 1 with fail
  refine wp_world (unhide HW2) ?_
  clear HW2
  go_wp2_with fail
  refine (unhide qb).mono ?_
  rintro e w3 ⟨rfl, hb3⟩
  replace RE := hide ((unhide RE).keep hb3)
  replace RP := hide ((unhide RP).keep hb3)
  replace TC := hide ((unhide TC).trans ((unhide H).tch hb3))
  replace H := hide ((unhide H).keep hb3)
  clear hb3
  clear e0 e1 e2 e3 e4 ez
  clear qb
  have e0 := (unhide RE).at (o := 0) (v := .int .i64 k) rfl
  have e1 := (unhide RE).at (o := 1) (v := .int .i64 t) rfl
  have e2 := (unhide RE).at (o := 2) (v := .string u) rfl
  have e3 := (unhide RE).at (o := 3) (v := .string d) rfl
  have e4 := (unhide RE).at (o := 4) (v := .string i) rfl
  have ez := (unhide RE).lt
  go_wp2_with fail
  refine (sErr_c 1 _).mono ?_
  rintro e w9 ⟨rfl, hb9⟩
  replace RE := hide ((unhide RE).keep hb9)
  replace RP := hide ((unhide RP).keep hb9)
  replace TC := hide ((unhide TC).trans ((unhide H).tch hb9))
  replace H := hide ((unhide H).keep hb9)
  clear hb9
  have r0 := (unhide RP).at (o := 0) (v := .int .i64 0) rfl
  have f0 := (unhide RP).froz 0
  have r1 := (unhide RP).at (o := 1) (v := .string ⟨#[]⟩) rfl
  have f1 := (unhide RP).froz 1
  have r2 := (unhide RP).at (o := 2) (v := .string ⟨#[]⟩) rfl
  have f2 := (unhide RP).froz 2
  have r3 := (unhide RP).at (o := 3) (v := .int .i64 0) rfl
  have f3 := (unhide RP).froz 3
  have rz := (unhide RP).lt
  go_wp2_with fail
  try simp only [Exit.inBlock, Exit.then]
  have qe := fun (n f3 : Int) (f1 f2 : ByteArray) => SpAt.end4 (n := n) (f1 := f1) (f2 := f2) (f3 := f3) (unhide H) (unhide RP) (unhide TC) hbz
  exact bodyPost_ret (ret_reply (fn := Tryd.f47) rfl _ _ (w.heap.size + 1) (encR ⟨_, _, _, _⟩) rfl rfl (qe _ _ _ _).1) rfl ⟨rfl, (qe _ _ _ _).2⟩
end Go.Proofs.YtppkgcedkdeccaaDoor
/- Sessions: the specification's do: past, unknown. -/
namespace Go.Proofs.YtppkgcedkdeccaaDoor
set_option linter.unusedSimpArgs false
set_option linter.unusedVariables false
set_option maxRecDepth 20000
open Go.RowKit Go.Maps


structure OkX (key : List UInt8) (gv : Nat) (s : SxT) : Prop where
  ne : s.ids ≠ []
  ids : ∀ y ∈ s.ids, ∃ n : Nat, 1 ≤ n ∧ n ≤ gv ∧ y = idOf key n
  il : s.ids.length ≤ gv
  lv : 1 ≤ s.level ∧ s.level ≤ 9
  lg : 0 ≤ s.login ∧ s.login ≤ 100000000000
  la : 0 ≤ s.last ∧ s.last ≤ 100000000000
  us : s.user.size ≤ maxLen
  dv : s.device.size ≤ maxLen
structure OkS (x : SsT) : Prop where
  now : 0 ≤ x.now ∧ x.now ≤ 100000000000
  ln : x.list.length ≤ x.given
  gv : x.given ≤ 1000
  all : ∀ s ∈ x.list, OkX x.key x.given s
  id : 1 ≤ x.idle ∧ x.idle ≤ 1000000
  mo : 1 ≤ x.most ∧ x.most ≤ 1000000
theorem fit_t {k t : Int} {u d i : ByteArray} (h : fitE k t u d i = true) : 0 ≤ t ∧ t ≤ 100000000000 := by
  apply Classical.byContradiction
  intro n
  rw [fit_time n] at h
  cases h
section
variable {w0 w : World} {b : Nat} {ka : Option Addr} {kl kc : Nat} {x : SsT} {v : Value} {P : List PxT}
theorem SpAt.slice (h : SpAt w0 w b ka kl kc x v P) : ∃ a cap, v = .slice a P.length cap ∧ (0 < P.length → ∃ g, a = some ⟨g, 0, none⟩ ∧ g < w.heap.size ∧ b < g) := by
  by_cases h0 : 0 < P.length
  · obtain ⟨g, cap, e, h1, h2⟩ := h.form h0
    exact ⟨_, cap, e, fun _ => ⟨g, rfl, h1, h2⟩⟩
  · rcases h.row.2 with ⟨e, e2⟩ | ⟨g, cap, _, e, _⟩
    · exact ⟨none, 0, by rw [e, e2], fun q => absurd q h0⟩
    · exact ⟨_, cap, e, fun q => absurd q h0⟩
theorem own_slS {g n c : Nat} {l : List ByteArray} (h : w.ownsRow b 9 1 (.slice (some ⟨g, 0, none⟩) n c) n (l.map Value.string)) : V.SlS w (some ⟨g, 0, none⟩) n l := by
  have hn : n = l.length := by have := h.1; simpa using this.symm
  refine ⟨hn, .inr ⟨g, 0, rfl, (h.lt g rfl).2, fun i hi => ?_⟩⟩
  rw [Nat.zero_add, h.cellAt i (by omega)]
  simp [hi]
theorem SpAt.lenP (h : SpAt w0 w b ka kl kc x v P) (ho : OkS x) : P.length ≤ 1000 := by
  have h1 := ho.ln
  have h2 := ho.gv
  rw [h.lst, List.length_map] at h1
  omega
theorem SpAt.okP (h : SpAt w0 w b ka kl kc x v P) (ho : OkS x) {j : Nat} (hj : j < P.length) : OkX x.key x.given P[j].s := ho.all _ (by rw [h.lst]; exact List.mem_map.2 ⟨P[j], List.getElem_mem hj, rfl⟩)
theorem SpAt.idsAt (h : SpAt w0 w b ka kl kc x v P) {j : Nat} (hj : j < P.length) : (idsL x.list).getD j [] = P[j].s.ids := by
  unfold idsL
  rw [h.lst]
  simp [List.getD_eq_getElem?_getD, hj]
theorem SpAt.idsLen (h : SpAt w0 w b ka kl kc x v P) : (idsL x.list).length = P.length := by unfold idsL; rw [h.lst]; simp
end
def atV : Option Nat → Int
  | none => -1
  | some j => j
theorem atV_le {L : List (List ByteArray)} {y : ByteArray} {k : Nat} : -1 ≤ atV (findK L y k) ∧ atV (findK L y k) < k := by
  cases e : findK L y k with
  | none => simp [atV]; omega
  | some j => have := (findK_some e).1; simp [atV]; omega
open Classical in
theorem atV_next {L : List (List ByteArray)} {y : ByteArray} {k : Nat} (b : Bool) (hb : b = true ↔ y ∈ L.getD k []) : atV (findK L y (k + 1)) = if b = true then (k : Int) else atV (findK L y k) := by
  rw [findK_succ]
  by_cases h : y ∈ L.getD k []
  · rw [if_pos h, if_pos (hb.2 h)]; rfl
  · rw [if_neg h, if_neg (fun q => h (hb.1 q))]
set_option maxHeartbeats 8000000 in
theorem do_past {w0 : World} {b : Nat} {ka : Option Addr} {kl kc : Nat} {x : SsT} {v : Value} {P : List PxT} (k t : Int) (u d i : ByteArray) (w : World) (h : SpAt w0 w b ka kl kc x v P) (hu : u.size ≤ maxLen) (hd : d.size ≤ maxLen) (hi : i.size ≤ maxLen) (hf : fitE k t u d i = true) (hn : t < x.now) :
    Calls Tryd.prog 47 #[.pointer (some ⟨b, 0, none⟩), .agg #[.int .i64 k, .int .i64 t, .string u, .string d, .string i]] w (DoQ w0 w b ka kl kc (x) (errR 2)) := by
  have hbz := h.box.lt
  have nSE : ¬ St 34 := by unfold St; decide
  have nSR : ¬ St 31 := by unfold St; decide
  obtain ⟨W1, hW1⟩ : ∃ W, W = w.alloc (.cells #[.int .i64 k, .int .i64 t, .string u, .string d, .string i] 34) := ⟨_, rfl⟩
  obtain ⟨W2, hW2⟩ : ∃ W, W = W1.alloc (.cells #[.int .i64 0, .string ⟨#[]⟩, .string ⟨#[]⟩, .int .i64 0] 31) := ⟨_, rfl⟩
  have z1 : W1.heap.size = w.heap.size + 1 := by rw [hW1]; simp
  have b1 : Below w.heap.size w W1 := by rw [hW1]; exact bAl (Below.refl _ _) _
  have b2 : Below W1.heap.size W1 W2 := by rw [hW2]; exact bAl (Below.refl _ _) _
  have RE := hide ((show RowIs W1 w.heap.size #[.int .i64 k, .int .i64 t, .string u, .string d, .string i] 34 by rw [hW1]; exact RowIs.new _ _ _).keep b2)
  have RP := hide (show RowIs W2 (w.heap.size + 1) rp0 31 by rw [hW2, ← z1]; exact RowIs.new _ _ _)
  have H := hide ((h.keep b1).keep b2)
  have TC := hide (h.tch (bTr b1 b2))
  rw [hW1] at hW2
  have HW2 := hide hW2.symm
  have HLO := hide h.lo
  clear hW1 hW2 z1 b1 b2 h
  have qb := hide (sBad_any k t u d i W2 hu hd)
  rw [hf] at qb
  simp only [Bool.not_true, Bool.not_false] at qb
  have e0 := (unhide RE).at (o := 0) (v := .int .i64 k) rfl
  have e1 := (unhide RE).at (o := 1) (v := .int .i64 t) rfl
  have e2 := (unhide RE).at (o := 2) (v := .string u) rfl
  have e3 := (unhide RE).at (o := 3) (v := .string d) rfl
  have e4 := (unhide RE).at (o := 4) (v := .string i) rfl
  have ez := (unhide RE).lt
  go_enter Tryd.func47, Tryd.ntmps47
  go_upto_region 1 with fail
  refine wp_world (unhide HW2) ?_
  clear HW2
  go_wp2_with fail
  refine (unhide qb).mono ?_
  rintro e w3 ⟨rfl, hb3⟩
  replace RE := hide ((unhide RE).keep hb3)
  replace RP := hide ((unhide RP).keep hb3)
  replace TC := hide ((unhide TC).trans ((unhide H).tch hb3))
  replace H := hide ((unhide H).keep hb3)
  clear hb3
  clear e0 e1 e2 e3 e4 ez
  clear qb
  have e0 := (unhide RE).at (o := 0) (v := .int .i64 k) rfl
  have e1 := (unhide RE).at (o := 1) (v := .int .i64 t) rfl
  have e2 := (unhide RE).at (o := 2) (v := .string u) rfl
  have e3 := (unhide RE).at (o := 3) (v := .string d) rfl
  have e4 := (unhide RE).at (o := 4) (v := .string i) rfl
  have ez := (unhide RE).lt
  have c3 := (unhide H).box.at (o := 3) (v := .int .i64 x.now) rfl
  have cz := (unhide H).box.lt
  go_upto_region 3 with fail
  go_region
  go_upto_region 4 with fail
  obtain ⟨w4, hw4⟩ : ∃ W, W = w3.drew := ⟨_, rfl⟩
  refine wp_world hw4.symm ?_
  have hb4 : Below w3.heap.size w3 w4 := by rw [hw4]; exact (Below.refl _ _).drew
  clear c3 cz hn hw4
  clear e0 e1 e2 e3 e4 ez
  replace RE := hide ((unhide RE).keep hb4)
  replace RP := hide ((unhide RP).keep hb4)
  replace TC := hide ((unhide TC).trans ((unhide H).tch hb4))
  replace H := hide ((unhide H).keep hb4)
  clear hb4
  go_wp2_with fail
  refine (sErr_c 2 _).mono ?_
  rintro e w9 ⟨rfl, hb9⟩
  replace RE := hide ((unhide RE).keep hb9)
  replace RP := hide ((unhide RP).keep hb9)
  replace TC := hide ((unhide TC).trans ((unhide H).tch hb9))
  replace H := hide ((unhide H).keep hb9)
  clear hb9
  have r0 := (unhide RP).at (o := 0) (v := .int .i64 0) rfl
  have f0 := (unhide RP).froz 0
  have r1 := (unhide RP).at (o := 1) (v := .string ⟨#[]⟩) rfl
  have f1 := (unhide RP).froz 1
  have r2 := (unhide RP).at (o := 2) (v := .string ⟨#[]⟩) rfl
  have f2 := (unhide RP).froz 2
  have r3 := (unhide RP).at (o := 3) (v := .int .i64 0) rfl
  have f3 := (unhide RP).froz 3
  have rz := (unhide RP).lt
  go_wp2_with fail
  try simp only [Exit.inBlock, Exit.then]
  have qe := fun (n f3 : Int) (f1 f2 : ByteArray) => SpAt.end4 (n := n) (f1 := f1) (f2 := f2) (f3 := f3) (unhide H) (unhide RP) (unhide TC) hbz
  exact bodyPost_ret (ret_reply (fn := Tryd.f47) rfl _ _ (w.heap.size + 1) (encR ⟨_, _, _, _⟩) rfl rfl (qe _ _ _ _).1) rfl ⟨rfl, (qe _ _ _ _).2⟩
set_option maxHeartbeats 8000000 in
theorem do_unknown {w0 : World} {b : Nat} {ka : Option Addr} {kl kc : Nat} {x : SsT} {v : Value} {P : List PxT} (k t : Int) (u d i : ByteArray) (w : World) (h : SpAt w0 w b ka kl kc x v P) (hu : u.size ≤ maxLen) (hd : d.size ≤ maxLen) (hi : i.size ≤ maxLen) (hOK : OkS x) (hf : fitE k t u d i = true) (hnt : x.now ≤ t) (hk1 : ¬ k = 1) (hk5 : ¬ k = 5) (hfind : findI (idsL x.list) i = none) :
    Calls Tryd.prog 47 #[.pointer (some ⟨b, 0, none⟩), .agg #[.int .i64 k, .int .i64 t, .string u, .string d, .string i]] w (DoQ w0 w b ka kl kc ({ x with now := t }) (errR 3)) := by
  have HOL := h.lenP hOK
  have HOK : OkS { x with now := t } := ⟨fit_t hf, hOK.ln, hOK.gv, hOK.all, hOK.id, hOK.mo⟩
  have hbz := h.box.lt
  have nSE : ¬ St 34 := by unfold St; decide
  have nSR : ¬ St 31 := by unfold St; decide
  obtain ⟨W1, hW1⟩ : ∃ W, W = w.alloc (.cells #[.int .i64 k, .int .i64 t, .string u, .string d, .string i] 34) := ⟨_, rfl⟩
  obtain ⟨W2, hW2⟩ : ∃ W, W = W1.alloc (.cells #[.int .i64 0, .string ⟨#[]⟩, .string ⟨#[]⟩, .int .i64 0] 31) := ⟨_, rfl⟩
  have z1 : W1.heap.size = w.heap.size + 1 := by rw [hW1]; simp
  have b1 : Below w.heap.size w W1 := by rw [hW1]; exact bAl (Below.refl _ _) _
  have b2 : Below W1.heap.size W1 W2 := by rw [hW2]; exact bAl (Below.refl _ _) _
  have RE := hide ((show RowIs W1 w.heap.size #[.int .i64 k, .int .i64 t, .string u, .string d, .string i] 34 by rw [hW1]; exact RowIs.new _ _ _).keep b2)
  have RP := hide (show RowIs W2 (w.heap.size + 1) rp0 31 by rw [hW2, ← z1]; exact RowIs.new _ _ _)
  have H := hide ((h.keep b1).keep b2)
  have TC := hide (h.tch (bTr b1 b2))
  rw [hW1] at hW2
  have HW2 := hide hW2.symm
  have HLO := hide h.lo
  clear hW1 hW2 z1 b1 b2 h
  have qb := hide (sBad_any k t u d i W2 hu hd)
  rw [hf] at qb
  simp only [Bool.not_true, Bool.not_false] at qb
  have e0 := (unhide RE).at (o := 0) (v := .int .i64 k) rfl
  have e1 := (unhide RE).at (o := 1) (v := .int .i64 t) rfl
  have e2 := (unhide RE).at (o := 2) (v := .string u) rfl
  have e3 := (unhide RE).at (o := 3) (v := .string d) rfl
  have e4 := (unhide RE).at (o := 4) (v := .string i) rfl
  have ez := (unhide RE).lt
  go_enter Tryd.func47, Tryd.ntmps47
  go_upto_region 1 with fail
  refine wp_world (unhide HW2) ?_
  clear HW2
  go_wp2_with fail
  refine (unhide qb).mono ?_
  rintro e w3 ⟨rfl, hb3⟩
  replace RE := hide ((unhide RE).keep hb3)
  replace RP := hide ((unhide RP).keep hb3)
  replace TC := hide ((unhide TC).trans ((unhide H).tch hb3))
  replace H := hide ((unhide H).keep hb3)
  clear hb3
  clear e0 e1 e2 e3 e4 ez
  clear qb
  have c3 := (unhide H).box.at (o := 3) (v := .int .i64 x.now) rfl
  have cz := (unhide H).box.lt
  have nt : ¬ t < x.now := by omega
  have e0 := (unhide RE).at (o := 0) (v := .int .i64 k) rfl
  have e1 := (unhide RE).at (o := 1) (v := .int .i64 t) rfl
  have e2 := (unhide RE).at (o := 2) (v := .string u) rfl
  have e3 := (unhide RE).at (o := 3) (v := .string d) rfl
  have e4 := (unhide RE).at (o := 4) (v := .string i) rfl
  have ez := (unhide RE).lt
  go_upto_region 3 with fail
  go_region
  go_upto_region 5 with fail
  obtain ⟨w4, hw4⟩ : ∃ W, W = w3.drew := ⟨_, rfl⟩
  refine wp_world hw4.symm ?_
  have hb4 : Below w3.heap.size w3 w4 := by rw [hw4]; exact (Below.refl _ _).drew
  clear c3 cz nt hw4
  clear e0 e1 e2 e3 e4 ez
  replace RE := hide ((unhide RE).keep hb4)
  replace RP := hide ((unhide RP).keep hb4)
  replace TC := hide ((unhide TC).trans ((unhide H).tch hb4))
  replace H := hide ((unhide H).keep hb4)
  clear hb4
  have e0 := (unhide RE).at (o := 0) (v := .int .i64 k) rfl
  have e1 := (unhide RE).at (o := 1) (v := .int .i64 t) rfl
  have e2 := (unhide RE).at (o := 2) (v := .string u) rfl
  have e3 := (unhide RE).at (o := 3) (v := .string d) rfl
  have e4 := (unhide RE).at (o := 4) (v := .string i) rfl
  have ez := (unhide RE).lt
  have c3 := (unhide H).box.at (o := 3) (v := .int .i64 x.now) rfl
  have f3 := (unhide H).box.froz 3
  have cz := (unhide H).box.lt
  obtain ⟨w5, hw5⟩ : ∃ W, W = w4.setCell ⟨b, 3, none⟩ (.int .i64 t) := ⟨_, rfl⟩
  have HW5 := hide hw5.symm
  have z5 : w5.heap.size = w4.heap.size := by rw [hw5]; simp [World.setCell]
  have nb1 : w.heap.size ≠ b := by omega
  have nb2 : w.heap.size + 1 ≠ b := by omega
  have RE' := hide (show RowIs w5 w.heap.size _ 34 by rw [hw5]; exact (unhide RE).setOther _ nb1)
  have RP' := hide (show RowIs w5 (w.heap.size + 1) rp0 31 by rw [hw5]; exact (unhide RP).setOther _ nb2)
  have TC' := hide (show Tch St b w w5 by rw [hw5]; exact (unhide TC).trans ((unhide H).tchB _ _))
  have H' := hide (show SpAt w0 w5 b ka kl kc { x with now := t } v P by rw [hw5]; exact (unhide H).setBox 3 _ _ _ rfl rfl rfl)
  clear hw5
  go_upto_region 6 with fail
  refine wp_world (unhide HW5) ?_
  clear HW5 RE RP TC H c3 f3 cz
  clear e0 e1 e2 e3 e4 ez
  have RE := RE'
  have RP := RP'
  have TC := TC'
  have H := H'
  clear RE' RP' TC' H' z5 nb1 nb2
  obtain ⟨va, vc, rfl, hform⟩ := (unhide H).slice
  have HF := hide hform
  clear hform
  obtain ⟨n, hn⟩ : ∃ n, P.length = n := ⟨_, rfl⟩
  have n1000 : n ≤ 1000 := by rw [← hn]; exact HOL
  have HN := hide hn
  rw [hn] at H
  clear hn
  have nk1 : (k == 1) = false := by simpa using hk1
  have nk5 : (k == 5) = false := by simpa using hk5
  have e0 := (unhide RE).at (o := 0) (v := .int .i64 k) rfl
  have e1 := (unhide RE).at (o := 1) (v := .int .i64 t) rfl
  have e2 := (unhide RE).at (o := 2) (v := .string u) rfl
  have e3 := (unhide RE).at (o := 3) (v := .string d) rfl
  have e4 := (unhide RE).at (o := 4) (v := .string i) rfl
  have ez := (unhide RE).lt
  have c5 := (unhide H).box.at (o := 5) (v := .slice va n vc) rfl
  have cz := (unhide H).box.lt
  go_wp2_with fail
  go_loopw [7, 96] (fun a q w' => ∃ m : Nat, m ≤ n ∧ q = .int .i64 m ∧ a = .int .i64 (atV (findK (idsL x.list) i m)) ∧ Hid (Below w5.heap.size w5 w')) (fun _ q _ => n - (intOf q).toNat)
  case atStart => exact ⟨0, Nat.zero_le _, rfl, rfl, hide (Below.refl _ _)⟩
  case round =>
    obtain ⟨m, hm, rfl, rfl, hb⟩ := hrel
    have BB := hb
    clear hb
    by_cases hlt : m < n
    · have HR := hide ((unhide H).keep (unhide BB))
      obtain ⟨g, rfl, _, _⟩ := unhide HF (by rw [unhide HN]; omega)
      have hmP : m < P.length := by rw [unhide HN]; exact hlt
      obtain ⟨p, hp⟩ : ∃ p, P[m] = p := ⟨_, rfl⟩
      have HC : ∀ {j : Nat} {y : Value}, (encP p)[j]? = some y → wr.cell? ⟨g, m * 7 + j, none⟩ = some y := fun {j y} e => by
        have q := unhide HR
        rw [← unhide HN] at q
        exact q.cells hmP (by rw [hp]; exact e)
      have x0 := HC (j := 0) (y := .slice (some ⟨p.g, 0, none⟩) p.s.ids.length p.c) rfl
      rw [Nat.add_zero] at x0
      have x1 := HC (j := 1) (y := .string p.s.user) rfl
      have x2 := HC (j := 2) (y := .string p.s.device) rfl
      have x3 := HC (j := 3) (y := .int .i64 p.s.level) rfl
      have x4 := HC (j := 4) (y := .int .i64 p.s.login) rfl
      have x5 := HC (j := 5) (y := .int .i64 p.s.last) rfl
      have x6 := HC (j := 6) (y := .bool p.s.dead) rfl
      have IDS := hide (own_slS (by have q := (unhide HR).ids m hmP; rw [hp] at q; exact q))
      have IA := hide (show (idsL x.list).getD m [] = p.s.ids by rw [← hp]; exact (unhide H).idsAt hmP)
      have ILN : p.s.ids.length ≤ 1000 := by
        have q := ((unhide H).okP HOK hmP).il
        rw [hp] at q
        exact Nat.le_trans q HOK.gv
      have RER := hide ((unhide RE).keep (unhide BB))
      clear HC hp
      generalize p.s.user = pu at *
      generalize p.s.device = pd at *
      generalize p.s.level = pl at *
      generalize p.s.login = pg at *
      generalize p.s.last = pa at *
      generalize p.s.dead = pe at *
      generalize p.s.ids = pi at *
      obtain ⟨pn, hpn⟩ : ∃ q, pi.length = q := ⟨_, rfl⟩
      rw [hpn] at x0 ILN
      have PN := hide hpn
      rw [hpn] at IDS
      clear hpn
      have re4 := (unhide RER).at (o := 4) (v := .string i) rfl
      have rez := (unhide RER).lt
      have AN := hide (fun (B : Bool) (hB : B = true ↔ i ∈ pi) => atV_next (L := idsL x.list) (y := i) (k := m) B (by rw [unhide IA]; exact hB))
      go_wp2_with fail
      refine (V.l3Has_anyY _ pn p.c pi i _ (by omega) ((unhide IDS).keep (bAl (Below.refl _ _) _))).mono ?_
      rintro e wx ⟨⟨vb, rfl, hvb⟩, rfl⟩
      have HVB := hide (unhide AN vb hvb)
      clear AN hvb x0 x1 x2 x3 x4 x5 x6
      have BN := hide (bTr (unhide BB) (bAl (Below.refl _ _) (.cells #[.slice (some ⟨p.g, 0, none⟩) pn p.c, .string pu, .string pd, .int .i64 pl, .int .i64 pg, .int .i64 pa, .bool pe] 79)))
      cases vb
      all_goals
        go_wp2_with fail
        exact ⟨⟨m + 1, by omega, by go_num, by rw [unhide HVB]; simp, BN⟩, by simp [intOf]; omega⟩
    · have em : m = n := by omega
      subst em
      have HR := hide ((unhide H).keep (unhide BB))
      replace RE := hide ((unhide RE).keep (unhide BB))
      replace RP := hide ((unhide RP).keep (unhide BB))
      replace TC := hide ((unhide TC).trans ((unhide H).tch (unhide BB)))
      clear H BB
      have H := HR
      clear HR
      obtain ⟨AT, hAT⟩ : ∃ q, findK (idsL x.list) i m = q := ⟨_, rfl⟩
      have hfi : findI (idsL x.list) i = AT := by unfold findI; rw [(unhide H).idsLen, unhide HN]; exact hAT
      rw [hAT]
      clear hAT e0 e1 e2 e3 e4 ez c5 cz
      obtain rfl : AT = none := hfi.symm.trans hfind
      simp only [atV]
      go_wp2_with fail
      refine (sErr_c 3 _).mono ?_
      rintro e w9 ⟨rfl, hb9⟩
      replace RE := hide ((unhide RE).keep hb9)
      replace RP := hide ((unhide RP).keep hb9)
      replace TC := hide ((unhide TC).trans ((unhide H).tch hb9))
      replace H := hide ((unhide H).keep hb9)
      clear hb9
      have r0 := (unhide RP).at (o := 0) (v := .int .i64 0) rfl
      have f0 := (unhide RP).froz 0
      have r1 := (unhide RP).at (o := 1) (v := .string ⟨#[]⟩) rfl
      have f1 := (unhide RP).froz 1
      have r2 := (unhide RP).at (o := 2) (v := .string ⟨#[]⟩) rfl
      have f2 := (unhide RP).froz 2
      have r3 := (unhide RP).at (o := 3) (v := .int .i64 0) rfl
      have f3 := (unhide RP).froz 3
      have rz := (unhide RP).lt
      go_wp2_with fail
      try simp only [Exit.inBlock, Exit.then]
      have qe := fun (n f3 : Int) (f1 f2 : ByteArray) => SpAt.end4 (n := n) (f1 := f1) (f2 := f2) (f3 := f3) (unhide H) (unhide RP) (unhide TC) hbz
      exact bodyPost_ret (ret_reply (fn := Tryd.f47) rfl _ _ (w.heap.size + 1) (encR ⟨_, _, _, _⟩) rfl rfl (qe _ _ _ _).1) rfl ⟨rfl, (qe _ _ _ _).2⟩
end Go.Proofs.YtppkgcedkdeccaaDoor
