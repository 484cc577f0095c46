/- laws.markTryS, laws.heldTryS: a row of 2 cells an element. -/
import Derived.Test.YtgdpbdgbkeghlaaGMkT
import Derived.Test.YtgdpbdgbkeghlaaKTr
namespace Go.Proofs.Ytgdpbdgbkeghlaa
open Go.RowKit

def MCTry (C : Array Value) (o j : Nat) : Prop := C[o]? = some (.int .i64 ((j : Int))) ∧ C[o + 1]? = some (.bool (decide (((j : Int) + 1) % 3 = 0)))
def MarkedTry (C : Array Value) (s n : Nat) : Prop := ∀ i, i < n → MCTry C (i * 2) (s + i * 2)
def MarksTry (w : World) (v : Value) (s n : Nat) : Prop := (v = .slice none 0 0 ∧ n = 0) ∨ ∃ g cap C, v = .slice (some ⟨g, 0, none⟩) n cap ∧ RowIs w g C 31 ∧ MarkedTry C s n
theorem MarksTry.keep {w w' : World} {v : Value} {s n : Nat} (h : MarksTry w v s n) (hb : Below w.heap.size w w') : MarksTry w' v s n :=
  h.imp_right fun ⟨g, cap, C, e, r, m⟩ => ⟨g, cap, C, e, r.keep hb, m⟩
theorem MarkedTry.set {C : Array Value} {s k j : Nat} (h : MarkedTry C s k) (hs : k * 2 + 1 < C.size) (hj : j = s + k * 2) {V0 V1 : Value} (e0 : V0 = .int .i64 ((j : Int))) (e1 : V1 = .bool (decide (((j : Int) + 1) % 3 = 0))) : MarkedTry ((C.setIfInBounds (k * 2) (V0)).setIfInBounds (k * 2 + 1) (V1)) s (k + 1) := by
  intro i hi
  unfold MCTry
  by_cases e : i = k
  · subst e
    subst hj
    subst e0 e1
    have s0 : i * 2 < C.size := by omega
    have s1 : i * 2 + 1 < C.size := by omega
    simp [s0, s1]
  · have := h i (by omega)
    unfold MCTry at this
    simp only [Array.getElem?_setIfInBounds]
    repeat rw [if_neg (by omega)]
    exact this

end Go.Proofs.Ytgdpbdgbkeghlaa
