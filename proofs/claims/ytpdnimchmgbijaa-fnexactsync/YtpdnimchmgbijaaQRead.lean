/- What came in, read: a part, a slice of parts. -/
import Derived.Test.YtpdnimchmgbijaaQRow
import Derived.ProofKit
import Derived.Deep.Slices
namespace Go.Proofs.Ytpdnimchmgbijaa
open Go.ChangeShapes Go.WideShapes Go.RowKit

section
variable {H : Type} {enc : TypeId × Value → H} {w : World} {base : Nat} {sp : Nat → Bool} {held : Bool}

theorem list2 {α : Type} {l : List α} (h : l.length = 2) : ∃ a b, l = [a, b] := by
  match l, h with
  | [a, b], _ => exact ⟨a, b, rfl⟩

theorem addr_add (b off k : Nat) : (⟨b, off, none⟩ : Addr).add k = ⟨b, off + k, none⟩ := by
  unfold Addr.add; split <;> simp_all

set_option maxRecDepth 8000 in
theorem read_part {n : Nat} {cs : List Value} {x : DataW H × List MemPlace} (h : DataW.trod enc Try.prog w base sp held n 35 cs = some x) :
    ∃ A : PartT, cs = [.string A.a, .string A.t] ∧ A.Ok := by
  obtain ⟨xs, m, rfl, _, hlen, hx, hf⟩ := DataW.trod_struct Try.underlying35 h
  have hc : Try.prog.cellsOf 35 = 2 := by kernel_rfl
  have k9 : Try.prog.cellsOf 9 = 1 := by kernel_rfl
  obtain ⟨c0, c1, rfl⟩ := list2 (hlen.trans hc)
  obtain ⟨x0, x1, rfl⟩ := list2 hx
  have h0 : DataW.trod enc Try.prog w base sp held m 9 [c0] = some x0 := by have := hf 0 _ rfl; simpa [k9] using this
  have h1 : DataW.trod enc Try.prog w base sp held m 9 [c1] = some x1 := by have := hf 1 _ rfl; simpa [k9] using this
  obtain ⟨s, q2, _, ws⟩ := DataW.trod_string Try.underlying9 h0
  obtain ⟨r, q3, _, wr⟩ := DataW.trod_string Try.underlying9 h1
  simp at q2 q3
  subst q2 q3
  exact ⟨⟨s, r⟩, rfl, ws, wr⟩

end
end Go.Proofs.Ytpdnimchmgbijaa
