/- impl.GoodRoleSet. -/
import Derived.Test.YtfabfgokammmhaaOIe
namespace Go.Proofs.Ytfabfgokammmhaa.V
set_option linter.unusedSimpArgs false
set_option linter.unusedVariables false
open Go.RowKit Go.Maps

set_option maxHeartbeats 1000000 in
theorem iGoodRoleSet_n (e : RoleSetE) (w : World) (hn : RoleSetN e.t) (hm : RoleSetM w 0 e) :
    Calls Try.prog 7 #[.agg #[.slice e.h0.a e.h0.len e.h0.cap, .slice e.h1.a e.h1.len e.h1.cap, .slice e.h2.a e.h2.len e.h2.cap]] w fun r w' => RetB r (GRs e.t) ∧ Below w.heap.size w w' := by
  have B := hide (bAl (Below.refl w.heap.size w) (.cells #[.slice e.h0.a e.h0.len e.h0.cap, .slice e.h1.a e.h1.len e.h1.cap, .slice e.h2.a e.h2.len e.h2.cap] 32))
  have q := hide (roleIndexOf_n e _ hn (hm.keep (unhide B)))
  generalize GRs e.t = G at q ⊢
  clear hn hm
  go_enter Try.func7, Try.ntmps7
  go_wp2_with fail
  refine (unhide q).mono ?_
  rintro r w1 ⟨⟨b1, b2, hp, hg, ok, _, rfl, hv, _⟩, hb⟩
  have HV := hide hv
  replace B := hide (bTr (unhide B) hb)
  clear hb hv q
  go_wp2_with fail
  go_ret
  exact ⟨retB (b := ok) (unhide HV), bAl (unhide B) _⟩
end Go.Proofs.Ytfabfgokammmhaa.V
