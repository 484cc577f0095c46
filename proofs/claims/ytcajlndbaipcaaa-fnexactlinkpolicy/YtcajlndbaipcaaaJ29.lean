/- YRa, YLe, one behind the other. -/
import Derived.Test.YtcajlndbaipcaaaJ23
import Derived.Test.YtcajlndbaipcaaaJ25
import Derived.Test.YtcajlndbaipcaaaJ26
import Derived.Test.YtcajlndbaipcaaaJ28
/- An atom as a law takes it, whole. -/
namespace Go.Proofs.Ytcajlndbaipcaaa.V
open Go.ChangeShapes Go.WideShapes Go.RowKit

def encA (a : AtomT) : Value := .agg #[.int .i64 a.x, .int .i64 a.n, .string a.t, .string a.y]
section
variable {H : Type} {enc : TypeId × Value → H} {w : World} {base : Nat} {sp : Nat → Bool} {held : Bool}
set_option maxRecDepth 100000 in
theorem readv_atom {r : Reach} {b0 : Nat} {v0 : Value} {d : DataW H} {p : List MemPlace} (hv : Value.okWide Try.prog w r b0 23 v0) (h : DataW.Trod enc Try.prog w base sp held 23 v0 d p) :
    ∃ A : AtomT, v0 = encA A ∧ A.Ok := by
  obtain ⟨cs, rfl, hsz⟩ := okWide_struct Try.underlying23 hv
  obtain ⟨fuel, hf0⟩ := h
  obtain ⟨l⟩ := cs
  obtain ⟨A, e, ok⟩ := read_atom hf0
  simp [Value.cells] at e
  subst e
  exact ⟨A, rfl, ok⟩
end
end Go.Proofs.Ytcajlndbaipcaaa.V
/- What LinkPolicy answers, in one form; a call of four arguments in a region that draws. -/
namespace Go.Proofs.Ytcajlndbaipcaaa.V
open Go.RowKit Go.Maps

open Classical in
noncomputable def lkB (P : PolT) (id : ByteArray) (pr re : AtomT) : Bool := decide (LinkC P id pr re)
def zHead : HeadT := ⟨0, 0, 0, ⟨#[]⟩, ⟨#[]⟩, ⟨#[]⟩⟩
def zPolT : PolT := ⟨⟨#[]⟩, false, zHead, zHead, zHead, []⟩
noncomputable def lkP (P : PolT) (id : ByteArray) (pr re : AtomT) : PolT := match lkB P id pr re with | true => linkP P id pr re | false => zPolT
theorem LinkEnd.uni {w' : World} {base : Nat} {P : PolT} {len : Nat} {id : ByteArray} {pr re : AtomT} {e : Ending} (hl : len = P.wh.length) (h : LinkEnd w' base P len id pr re e) :
    ∃ v, e = .returned (.tuple #[polAgg (lkP P id pr re) v, .bool (lkB P id pr re)]) ∧ w'.ownsRow base 56 7 v (lkP P id pr re).wh.length (ExprsV (lkP P id pr re).wh) := by
  subst hl
  rcases h with ⟨c, v, e, o⟩ | ⟨c, e⟩
  · have hb : lkB P id pr re = true := by simp [lkB, c]
    have hp : lkP P id pr re = linkP P id pr re := by simp only [lkP, hb]
    rw [hp, hb]
    exact ⟨v, e, o⟩
  · have hb : lkB P id pr re = false := by simp [lkB, c]
    have hp : lkP P id pr re = zPolT := by simp only [lkP, hb]
    rw [hp, hb]
    exact ⟨_, e, World.ownsRow_nil _ _ _ _⟩
theorem lkP_len (P : PolT) (id : ByteArray) (pr re : AtomT) : (lkP P id pr re).wh.length ≤ P.wh.length := by
  cases hb : lkB P id pr re
  · have hp : lkP P id pr re = zPolT := by simp only [lkP, hb]
    rw [hp]; exact Nat.zero_le _
  · have hp : lkP P id pr re = linkP P id pr re := by simp only [lkP, hb]
    rw [hp]; exact Nat.le_refl _
theorem ent_spec : EntY 6 := entY_of Try.func6 (by kernel_rfl) (by kernel_rfl)
theorem ent_impl : EntY 9 := entY_of Try.func9 (by kernel_rfl) (by kernel_rfl)
theorem ent_toAtom : EntY 8 := entY_of Try.func8 (by kernel_rfl) (by kernel_rfl)
theorem step_call4 (w : World) {ops : Array Oper} {o : Oper} {a : Act} {K : Act → World → Prop} {Q : Exit → Act → World → Prop} {E : Prop} (hgd : o.guard = none) (f : FuncId) (x0 x1 x2 x3 : Operand) (ts : Array TypeId)
    (ho : o.op = .call { callee := .value (.func f), args := #[x0, x1, x2, x3], argTypes := ts }) (v0 v1 v2 v3 : Value) (h0 : a.eval x0 = v0) (h1 : a.eval x1 = v1) (h2 : a.eval x2 = v2) (h3 : a.eval x3 = v3) (hen : EntY f) {R : Ending → World → Prop} (hc : Calls Try.prog f #[v0, v1, v2, v3] w R)
    (h : ∀ e w', R e w' → ∃ v, e = .returned v ∧ K (a.put o.dst v) w') :
    if Region.wanted o (yielded ops a.tmps) = true then Oper.wp Try.prog o a w K Q else E := by
  have hw : Region.wanted o (yielded ops a.tmps) = true := by simp [Region.wanted, hgd]
  rw [if_pos hw]
  have hr : (execOp a.eval o).run Try.prog w = .ok (.enter f #[v0, v1, v2, v3]) w := by
    have he := hen #[v0, v1, v2, v3] w
    have hf : a.eval (.func f) = .func (.func f) #[] #[] := rfl
    unfold execOp
    simp only [ho, resolve, invoke, Deferred.ofValue, Sem.run_bind, Sem.run_pure, Result.andThen_ok, List.map_toArray, List.map_cons, List.map_nil, h0, h1, h2, h3, hf]
    have e2 : (#[v0, v1, v2, v3] ++ #[] : Array Value) = #[v0, v1, v2, v3] := by simp
    first | exact he | (rw [e2]; exact he) | (simp; exact he)
  unfold Oper.wp
  rw [hr, Oper.upon_enter]
  refine hc.mono ?_
  intro e w' hR
  obtain ⟨v, rfl, hK⟩ := h e w' hR
  exact hK
/-- What the law's own boxes hold. -/
structure H3 (P : PolT) (s : Value) (pr re : AtomT) (b : Nat) (w : World) : Prop where
  p : RowIs w b (polRow P s) 28
  r : RowIs w (b + 1) #[.int .i64 pr.x, .int .i64 pr.n, .string pr.t, .string pr.y] 23
  q : RowIs w (b + 1 + 1) #[.int .i64 re.x, .int .i64 re.n, .string re.t, .string re.y] 23
theorem H3.keep {P : PolT} {s : Value} {pr re : AtomT} {b : Nat} {w w' : World} (h : H3 P s pr re b w) (hb : Below w.heap.size w w') : H3 P s pr re b w' := ⟨h.p.keep hb, h.r.keep hb, h.q.keep hb⟩
theorem RowIs.setRowO {w : World} {b g : Nat} {C cs : Array Value} {T : TypeId} (h : RowIs w b C T) (hne : b ≠ g) : RowIs (w.setRow g cs) b C T := by
  unfold RowIs at *; rw [setRow_other _ _ _ _ hne]; exact h
theorem H3.row {P : PolT} {s : Value} {pr re : AtomT} {b g : Nat} {w : World} (h : H3 P s pr re b w) (hg : b + 3 ≤ g) (cs : Array Value) : H3 P s pr re b (w.setRow g cs) := ⟨h.p.setRowO (by omega), h.r.setRowO (by omega), h.q.setRowO (by omega)⟩
theorem RowIs.grownY {w w' : World} {b : Nat} {C : Array Value} {T : TypeId} {r : Option Nat} (h : RowIs w b C T) (hg : w.grownBy w' r) (hne : some b ≠ r) : RowIs w' b C T := by
  have hl := h.lt
  unfold RowIs at *; rw [hg.block b hl hne]; exact h
theorem H3.grown {P : PolT} {s : Value} {pr re : AtomT} {b : Nat} {w w' : World} {r : Option Nat} (h : H3 P s pr re b w) (hg : w.grownBy w' r) (hr : ∀ k, r = some k → b + 3 ≤ k) : H3 P s pr re b w' :=
  ⟨h.p.grownY hg (fun e => by have := hr _ e.symm; omega), h.r.grownY hg (fun e => by have := hr _ e.symm; omega), h.q.grownY hg (fun e => by have := hr _ e.symm; omega)⟩
/-- A policy that was made: its box and what it owns. -/
structure MadeP (w : World) (lo : Nat) (L : PolT) (bx : Nat) (v : Value) : Prop where
  row : RowIs w bx (polRow L v) 36
  own : w.ownsRow lo 56 7 v L.wh.length (ExprsV L.wh)
  low : lo ≤ bx
  ne : ∀ g, v.ownBlock = some g → g ≠ bx
theorem own_keepY {w w' : World} {base n e size : Nat} {v : Value} {xs : List Value} (h : w.ownsRow base e size v n xs) (hb : Below w.heap.size w w') : w'.ownsRow base e size v n xs := by
  refine ⟨h.1, h.2.imp_right ?_⟩
  rintro ⟨g, cap, cur, e', h1, hh, r⟩
  have hl : g < w.heap.size := (Array.getElem?_eq_some_iff.1 hh).1
  exact ⟨g, cap, cur, e', h1, by rw [hb.block g hl]; exact hh, r⟩
theorem own_loY {w : World} {base base' e size n : Nat} {v : Value} {xs : List Value} (h : w.ownsRow base e size v n xs) (hb : base' ≤ base) : w.ownsRow base' e size v n xs := by
  refine ⟨h.1, ?_⟩
  rcases h.2 with h2 | ⟨g, cap, cur, hv, h3, h4⟩
  · exact .inl h2
  · exact .inr ⟨g, cap, cur, hv, Nat.le_trans hb h3, h4⟩
theorem MadeP.keep {w w' : World} {lo : Nat} {L : PolT} {bx : Nat} {v : Value} (h : MadeP w lo L bx v) (hb : Below w.heap.size w w') : MadeP w' lo L bx v := ⟨h.row.keep hb, own_keepY h.own hb, h.low, h.ne⟩
theorem MadeP.grown {w w' : World} {lo : Nat} {L : PolT} {bx : Nat} {v : Value} {r : Option Nat} (h : MadeP w lo L bx v) (hg : w.grownBy w' r) (h1 : some bx ≠ r) (h2 : ∀ g, v.ownBlock = some g → some g ≠ r) : MadeP w' lo L bx v :=
  ⟨h.row.grownY hg h1, h.own.kept hg (by cases e : v.ownBlock with | none => exact .inl rfl | some g => exact .inr (h2 g e)), h.low, h.ne⟩
theorem MadeP.lt {w : World} {lo : Nat} {L : PolT} {bx : Nat} {v : Value} (h : MadeP w lo L bx v) : bx < w.heap.size ∧ ∀ g, v.ownBlock = some g → lo ≤ g ∧ g < w.heap.size := ⟨h.row.lt, h.own.lt⟩
theorem MadeP.made {w : World} {lo : Nat} {L : PolT} {bx : Nat} {v : Value} {C : Array Value} (hr : RowIs w bx C 36) (ho : w.ownsRow lo 56 7 v L.wh.length (ExprsV L.wh)) (hl : lo ≤ bx) (hne : ∀ g, v.ownBlock = some g → g ≠ bx) : MadeP (w.setRow bx (polRow L v)) lo L bx v :=
  ⟨setRow_heap _ _ _ _ _ _ hr, own_row ho hne, hl, hne⟩
theorem sl_ownY {w : World} {base : Nat} {a : Option Addr} {cap : Nat} {l : List ExprT} (h : w.ownsRow base 56 7 (.slice a l.length cap) l.length (ExprsV l)) : SlExpr w a l.length l := by
  obtain ⟨a', c', e, s⟩ := own_Expr h
  cases e
  exact s
theorem ent_mark : True := trivial
/-- What toPolicy makes may be written into. -/
theorem own_of_row {w : World} {lo b len : Nat} {C : Array Value} (hr : RowIs w b C 56) (hc : C.size = len * 7) (hl : lo ≤ b) (hm : len ≤ maxLen) : w.ownsRow lo 56 7 (.slice (some ⟨b, 0, none⟩) len len) len C.toList :=
  ⟨by simp [hc], .inr ⟨b, len, C, rfl, hl, hr, Nat.le_refl _, hm, hc, List.take_of_length_le (by simp [hc])⟩⟩
end Go.Proofs.Ytcajlndbaipcaaa.V
