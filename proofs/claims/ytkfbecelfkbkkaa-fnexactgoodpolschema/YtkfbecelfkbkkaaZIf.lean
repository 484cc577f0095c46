/- impl.GoodPolSchema. -/
import Derived.Test.YtkfbecelfkbkkaaZIe
namespace Go.Proofs.Ytkfbecelfkbkkaa.V
set_option linter.unusedSimpArgs false
set_option linter.unusedVariables false
open Go.RowKit

set_option maxHeartbeats 1000000 in
theorem iGoodPolSchema_n (e : PolSchemaE) (w : World) (hn : PolSchemaN e.t) (hm : PolSchemaM w 0 e) :
    Calls Try.prog 19 #[.agg #[.slice e.h0.a e.h0.len e.h0.cap, .slice e.h1.a e.h1.len e.h1.cap]] w fun r w' => RetB r (GPs e.t) ∧ Below w.heap.size w w' := by
  have B := hide (bAl (Below.refl w.heap.size w) (.cells #[.slice e.h0.a e.h0.len e.h0.cap, .slice e.h1.a e.h1.len e.h1.cap] 53))
  have q := hide (polIndexOf_n e _ hn (hm.keep (unhide B)))
  generalize GPs e.t = G at q ⊢
  clear hn hm
  go_enter Try.func19, Try.ntmps19
  go_wp2_with fail
  refine (unhide q).mono ?_
  rintro r w1 ⟨⟨b1, b2, ok, rfl, hv⟩, hb⟩
  have HV := hide hv
  replace B := hide (bTr (unhide B) hb)
  clear hb hv q
  go_wp2_with fail
  go_ret
  exact ⟨retB (b := ok) (unhide HV), bAl (unhide B) _⟩
end Go.Proofs.Ytkfbecelfkbkkaa.V
