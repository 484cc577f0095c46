/- A term that came in. -/
import Derived.Test.YtmkgehcfdcoliaaRSpT
namespace Go.Proofs.Ytmkgehcfdcoliaa.V
open Go.ChangeShapes Go.WideShapes Go.RowKit
section
variable {H : Type} {enc : TypeId × Value → H} {w : World} {base : Nat} {sp : Nat → Bool} {held : Bool}
set_option maxRecDepth 100000 in
theorem readv_term {r : Reach} {b0 : Nat} {v0 : Value} {d : DataW H} {p : List MemPlace} (hv : Value.okWide Try.prog w r b0 38 v0) (h : DataW.Trod enc Try.prog w base sp held 38 v0 d p) :
    ∃ A : CavTermT, v0 = tAgg A ∧ A.Ok := by
  obtain ⟨cs, rfl, hsz⟩ := okWide_struct Try.underlying38 hv
  obtain ⟨fuel, hf0⟩ := h
  obtain ⟨l⟩ := cs
  obtain ⟨A, e, ok⟩ := read_CavTerm hf0
  simp [Value.cells] at e
  subst e
  exact ⟨A, rfl, ok⟩
end
end Go.Proofs.Ytmkgehcfdcoliaa.V
