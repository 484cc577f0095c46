/- laws.markIntS, laws.heldIntS: a row of 1 cells an element. -/
import Derived.Test.YtjmpakpodhbbpaaGMkT
namespace Go.Proofs.Ytjmpakpodhbbpaa
open Go.RowKit

def MCInt (C : Array Value) (o j : Nat) : Prop := C[o]? = some (.int .i64 ((j : Int)))
def MarkedInt (C : Array Value) (s n : Nat) : Prop := ∀ i, i < n → MCInt C (i) (s + i)
def MarksInt (w : World) (v : Value) (s n : Nat) : Prop := (v = .slice none 0 0 ∧ n = 0) ∨ ∃ g cap C, v = .slice (some ⟨g, 0, none⟩) n cap ∧ RowIs w g C 3 ∧ MarkedInt C s n
theorem MarksInt.keep {w w' : World} {v : Value} {s n : Nat} (h : MarksInt w v s n) (hb : Below w.heap.size w w') : MarksInt w' v s n :=
  h.imp_right fun ⟨g, cap, C, e, r, m⟩ => ⟨g, cap, C, e, r.keep hb, m⟩
theorem MarkedInt.set {C : Array Value} {s k j : Nat} (h : MarkedInt C s k) (hs : k + 0 < C.size) (hj : j = s + k) {V0 : Value} (e0 : V0 = .int .i64 ((j : Int))) : MarkedInt (C.setIfInBounds (k) (V0)) s (k + 1) := by
  intro i hi
  unfold MCInt
  by_cases e : i = k
  · subst e
    subst hj
    subst e0
    have s0 : i < C.size := by omega
    simp [s0]
  · have := h i (by omega)
    unfold MCInt at this
    simp only [Array.getElem?_setIfInBounds]
    repeat rw [if_neg (by omega)]
    exact this

end Go.Proofs.Ytjmpakpodhbbpaa
