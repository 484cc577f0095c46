/- What the law of RotateRing wants of a key that came in. -/
import Derived.Test.YtenbliiombjldaaKOj
import Derived.Test.YtenbliiombjldaaKMk
import Derived.Lib.SmallJoins
namespace Go.Proofs.Ytenbliiombjldaa
open Go.ChangeShapes Go.WideShapes Go.RowKit Go.Joins
section
variable {H : Type} {enc : TypeId × Value → H} {w : World} {base : Nat} {sp : Nat → Bool} {held : Bool}
set_option maxRecDepth 100000 in
theorem readv_Key {r : Reach} {b0 : Nat} {v0 : Value} {d : DataW H} {p : List MemPlace} (hv : Value.okWide Try.prog w r b0 24 v0) (h : DataW.Trod enc Try.prog w base sp held 24 v0 d p) :
    ∃ A : KeyT, v0 = .agg #[.string A.f0, .int .i64 A.f1, .int .i64 A.f2, .int .i64 A.f3] ∧ A.Ok := by
  obtain ⟨c0, c1, c2, c3, y0, y1, y2, y3, m, rfl, _, _, g0, g1, g2, g3⟩ := open_agg4 Try.underlying24 (by kernel_rfl) (by kernel_rfl) hv h
  obtain ⟨a, q0, _, wa⟩ := DataW.trod_string Try.underlying9 g0
  obtain ⟨b, q1, _, wb⟩ := DataW.trod_int Try.underlying3 g1
  obtain ⟨c, q2, _, wc⟩ := DataW.trod_int Try.underlying3 g2
  obtain ⟨e, q3, _, we⟩ := DataW.trod_int Try.underlying3 g3
  simp at q0 q1 q2 q3
  subst q0 q1 q2 q3
  exact ⟨⟨a, b, c, e⟩, rfl, wa, wb, wc, we⟩
end
end Go.Proofs.Ytenbliiombjldaa
