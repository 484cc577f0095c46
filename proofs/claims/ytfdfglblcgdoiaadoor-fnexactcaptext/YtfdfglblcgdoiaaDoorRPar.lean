/- Slices of impl.Param: in memory, read, sized, copied, held against each other. -/
import Derived.Test.YtfdfglblcgdoiaaDoorWRead
import Derived.ProofKit
import Derived.Deep.Slices
import Derived.Laws.MakeOwn
import Derived.OwnWalk
namespace Go.Proofs.YtfdfglblcgdoiaaDoor.V
open Go.ChangeShapes Go.WideShapes Go.RowKit

structure ParamT where
  f0 : ByteArray
  f1 : Int
structure ParamT.Ok (x : ParamT) : Prop where
  o0 : x.f0.size ≤ maxLen
  o1 : (Lit.int .i64 x.f1).wf = true
def encParam (x : ParamT) : List Value := [.string x.f0, .int .i64 x.f1]
structure ParamRow (w : World) (b off : Nat) (l : List ParamT) : Prop where
  z : b < w.heap.size
  c0 : ∀ i (h : i < l.length), w.cell? ⟨b, off + i * 2, none⟩ = some (.string l[i].f0)
  c1 : ∀ i (h : i < l.length), w.cell? ⟨b, off + i * 2 + 1, none⟩ = some (.int .i64 l[i].f1)
theorem ParamRow.keep {w w1 : World} {b off : Nat} {l : List ParamT} (h : ParamRow w b off l) (hb : Below w.heap.size w w1) : ParamRow w1 b off l :=
  ⟨Nat.lt_of_lt_of_le h.z hb.size, fun i hi => cellB hb h.z (h.c0 i hi), fun i hi => cellB hb h.z (h.c1 i hi)⟩
def SlParam (w : World) (a : Option Addr) (len : Nat) (l : List ParamT) : Prop := len = l.length ∧ (l = [] ∨ ∃ b off, a = some ⟨b, off, none⟩ ∧ ParamRow w b off l)
theorem SlParam.keep {w w1 : World} {a : Option Addr} {len : Nat} {l : List ParamT} (h : SlParam w a len l) (hb : Below w.heap.size w w1) : SlParam w1 a len l :=
  ⟨h.1, by
    rcases h.2 with e | ⟨b, off, e, r⟩
    · exact .inl e
    · exact .inr ⟨b, off, e, r.keep hb⟩⟩
theorem SlParam.at {w : World} {a : Option Addr} {len : Nat} {l : List ParamT} (h : SlParam w a len l) {k : Nat} (hk : k < len) : ∃ b off, a = some ⟨b, off, none⟩ ∧ ParamRow w b off l := by
  rcases h.2 with e | e
  · rw [h.1, e] at hk; simp at hk
  · exact e
theorem bStParam {w w' : World} (h : Below w.heap.size w w') (b o : Nat) (hb : w.heap.size ≤ b) (v : Value) : Below w.heap.size w (w'.setCell ⟨b, o, none⟩ v) := h.setCell hb v
def FilledParam (C : Array Value) (l : List ParamT) (k : Nat) : Prop := ∀ i (h : i < l.length), i < k → C[i * 2]? = some (.string l[i].f0) ∧ C[i * 2 + 1]? = some (.int .i64 l[i].f1)
def setParam (C : Array Value) (k : Nat) (x : ParamT) : Array Value := ((C.setIfInBounds (k * 2) (.string x.f0)).setIfInBounds (k * 2 + 1) (.int .i64 x.f1))
theorem size_setParam (C : Array Value) (k : Nat) (x : ParamT) : (setParam C k x).size = C.size := by simp [setParam]
theorem FilledParam.set {C : Array Value} {l : List ParamT} {k : Nat} (h : FilledParam C l k) (hk : k < l.length) (hC : C.size = l.length * 2) : FilledParam (setParam C k l[k]) l (k + 1) := by
  intro i hi hik
  unfold setParam
  by_cases e : i = k
  · subst e
    have s0 : i * 2 < C.size := by omega
    have s1 : i * 2 + 1 < C.size := by omega
    simp [s0, s1]
  · have := h i hi (by omega)
    simp only [Array.getElem?_setIfInBounds]
    repeat rw [if_neg (by omega)]
    exact this
theorem FilledParam.row {w : World} {b : Nat} {C : Array Value} {T : TypeId} {l : List ParamT} (h : FilledParam C l l.length) (hr : RowIs w b C T) : ParamRow w b 0 l :=
  ⟨hr.lt, fun i hi => by rw [Nat.zero_add, hr.cell]; exact (h i hi hi).1, fun i hi => by rw [Nat.zero_add, hr.cell]; exact (h i hi hi).2⟩
def ParamsV (l : List ParamT) : List Value := l.flatMap encParam
theorem ParamsV_snoc (l : List ParamT) (c : ParamT) : ParamsV (l ++ [c]) = ParamsV l ++ encParam c := by simp [ParamsV]
theorem encParam_one (c : ParamT) : ∀ x ∈ encParam c, x.oneCell' = true := by
  intro x hx
  simp [encParam] at hx
  rcases hx with rfl | rfl <;> rfl
theorem ParamsV_get : ∀ (l : List ParamT) (i : Nat) (h : i < l.length) (j : Nat) (v : Value), (encParam l[i])[j]? = some v → (ParamsV l)[i * 2 + j]? = some v
  | [], i, h, _, _, _ => absurd h (Nat.not_lt_zero _)
  | c :: l, 0, _, j, v, hv => by
    have hj := (List.getElem?_eq_some_iff.1 hv).1
    have e : ParamsV (c :: l) = encParam c ++ ParamsV l := by simp [ParamsV]
    rw [e, List.getElem?_append_left (by simpa using hj)]
    simpa using hv
  | c :: l, i + 1, h, j, v, hv => by
    have e : ParamsV (c :: l) = encParam c ++ ParamsV l := by simp [ParamsV]
    have hl : (encParam c).length = 2 := rfl
    rw [e, List.getElem?_append_right (by rw [hl]; omega), hl, show (i + 1) * 2 + j - 2 = i * 2 + j by omega]
    exact ParamsV_get l i (by simpa using h) j v (by simpa using hv)
theorem listnParam {α : Type} {l : List α} (h : l.length = 2) : ∃ a0 a1, l = [a0, a1] := by
  match l, h with
  | [a0, a1], _ => exact ⟨a0, a1, rfl⟩
section
variable {H : Type} {enc : TypeId × Value → H} {w : World} {base : Nat} {sp : Nat → Bool} {held : Bool}
theorem addr_Param (b off k : Nat) : (⟨b, off, none⟩ : Addr).add k = ⟨b, off + k, none⟩ := by
  unfold Addr.add; split <;> simp_all
end
end Go.Proofs.YtfdfglblcgdoiaaDoor.V
