/- WVal, ported from seat 1a. -/
import Derived.Test.YtlnmhjihfolliaaWValJ
namespace Go.Proofs.Ytlnmhjihfolliaa.V
open Go.RowKit

theorem zeroA_zero : zeroA ⟨0, 0, ⟨#[]⟩, ⟨#[]⟩⟩ := ⟨rfl, rfl, by rw [ByteArray.toList_eq], by rw [ByteArray.toList_eq]⟩

theorem sGoodValue_any (v : ValT) (hv : v.Ok) (a1 a2 : Option Addr) (l1 c1 l2 c2 : Nat) (w : World) (hs : SlA w a1 l1 v.items) (hs2 : SlS w a2 l2 v.names) :
    Calls Try.prog 8 #[.agg #[.int .i64 v.k, .int .i64 v.a.x, .int .i64 v.a.n, .string v.a.t, .string v.a.y, .slice a1 l1 c1, .slice a2 l2 c2]] w
      fun e w' => RetB e (GoodVal v) ∧ Below w.heap.size w w' := by
  obtain ⟨k, A, items, names⟩ := v
  by_cases h1 : k = 1
  · subst h1; exact sGoodValue_1 A items names hv.a a1 a2 l1 c1 l2 c2 w hs.1 hs2.1
  by_cases h23 : k = 2 ∨ k = 3
  · by_cases hz : zeroA A
    · obtain rfl := zeroA_eq hz
      rcases h23 with rfl | rfl
      · exact sGoodValue_2 items names hv.items a1 a2 l1 c1 l2 c2 w hs hs2.1
      · exact sGoodValue_3 items names hv.items hv.names a1 a2 l1 c1 l2 c2 w hs hs2
    · exact sGoodValue_odd k A items names h23 hz a1 a2 l1 c1 l2 c2 w
  · exact sGoodValue_else ⟨k, A, items, names⟩ a1 a2 l1 c1 l2 c2 w h1 (fun h => h23 (.inl h)) (fun h => h23 (.inr h))

end Go.Proofs.Ytlnmhjihfolliaa.V
