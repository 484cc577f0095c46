/- What the law of TryOnce wants of a throttle. -/
import Derived.Test.YtdfjhnfidbkdpaaKTa
import Derived.Test.YtdfjhnfidbkdpaaQRow
import Derived.Lib.SmallJoins
namespace Go.Proofs.Ytdfjhnfidbkdpaa
open Go.ChangeShapes Go.WideShapes Go.RowKit Go.Joins

theorem toThrottle_any (x : ThT) (w : World) : Calls Try.prog 6 #[x.v] w fun e w' => e = .returned x.v ∧ Below w.heap.size w w' := by
  obtain ⟨a, b, c⟩ := x
  unfold ThT.v
  go_enter Try.func6, Try.ntmps6
  go_wp2
  exact bodyPost_ret (v := .agg #[.int .i64 a, .int .i64 b, .int .i64 c]) (by simp [results, Try.results6, go_sem]) rfl ⟨rfl, bAl (bAl (bAl (Below.refl _ _) _) _) _⟩
theorem eqThrottle_same (x : ThT) (w : World) : Calls Try.prog 8 #[x.v, x.v] w fun e w' => e = .returned (.bool true) ∧ Below w.heap.size w w' := by
  obtain ⟨a, b, c⟩ := x
  unfold ThT.v
  go_enter Try.func8, Try.ntmps8
  go_wp2
  go_ret
  exact ⟨rfl, bAl (bAl (Below.refl _ _) _) _⟩
section
variable {H : Type} {enc : TypeId × Value → H} {w : World} {base : Nat} {sp : Nat → Bool} {held : Bool}
set_option maxRecDepth 100000 in
theorem readv_Throttle {r : Reach} {b0 : Nat} {v0 : Value} {d : DataW H} {p : List MemPlace} (hv : Value.okWide Try.prog w r b0 23 v0) (h : DataW.Trod enc Try.prog w base sp held 23 v0 d p) :
    ∃ A : ThT, v0 = A.v ∧ A.Ok := by
  obtain ⟨c0, c1, c2, y0, y1, y2, m, rfl, _, _, g0, g1, g2⟩ := open_agg3 Try.underlying23 (by kernel_rfl) (by kernel_rfl) hv h
  obtain ⟨a, q0, _, wa⟩ := DataW.trod_int Try.underlying3 g0
  obtain ⟨b, q1, _, wb⟩ := DataW.trod_int Try.underlying3 g1
  obtain ⟨c, q2, _, wc⟩ := DataW.trod_int Try.underlying3 g2
  simp at q0 q1 q2
  subst q0 q1 q2
  exact ⟨⟨a, b, c⟩, rfl, wa, wb, wc⟩
end
end Go.Proofs.Ytdfjhnfidbkdpaa
