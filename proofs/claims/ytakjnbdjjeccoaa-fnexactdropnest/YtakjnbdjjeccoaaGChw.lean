/- spec.AddNest, spec.DropNest. -/
import Derived.Test.YtakjnbdjjeccoaaGChs
namespace Go.Proofs.Ytakjnbdjjeccoaa
open Go.RowKit

set_option maxRecDepth 100000 in
set_option maxHeartbeats 400000 in
theorem sAddNest_any (a : Option Addr) (len cap : Nat) (l : List NestT) (ra : Option Addr) (rlen rcap : Nat) (g m : Bs) (w : World) (hl : len ≤ maxLen) (hs : SlNest w a len l) (hok : ∀ q ∈ l, NestT.Ok q) (hg : g.size ≤ maxLen) (hm : m.size ≤ maxLen) :
    Calls Try.prog 24 #[.slice a len cap, .slice ra rlen rcap, .agg #[.string g, .string m]] w fun e w' => (∃ v u r1 r2, e = .returned (.tuple #[v, u]) ∧ PChg l (g, m) (AddS l (g, m)) r1 r2 ∧ w'.ownsRow w.heap.size 42 2 v r1.length (NestsV r1) ∧ w'.ownsRow w.heap.size 70 3 u r2.length (ReachsV r2) ∧ DJ v u) ∧ Below w.heap.size w w' := by
  obtain ⟨W, hW⟩ : ∃ W, W = w.alloc (.cells #[.string g, .string m] 42) := ⟨_, rfl⟩
  have B0 := hide (show Below w.heap.size w W by rw [hW]; exact bAl (Below.refl _ _) _)
  have HW := hide hW.symm
  have qg := hide (l5Change_any a len cap l g m true W hl (hs.keep (unhide B0)) hok hg hm)
  clear hs hok hW
  unfold maxLen at hl
  go_enter Try.func24, Try.ntmps24
  go_wp2_with fail
  rw [unhide HW]
  refine (unhide qg).mono ?_
  rintro e w1 ⟨⟨v, u, r1, r2, rfl, hP, ho1, ho2, hd⟩, hb1⟩
  have FIN := hide (show PChg l (g, m) (AddS l (g, m)) r1 r2 ∧ w1.ownsRow w.heap.size 42 2 v r1.length (NestsV r1) ∧ w1.ownsRow w.heap.size 70 3 u r2.length (ReachsV r2) ∧ DJ v u from ⟨hP, own_base ho1 (unhide B0).size, own_base ho2 (unhide B0).size, hd⟩)
  have B1 := hide (bTr (unhide B0) hb1)
  clear hP ho1 ho2 hd hb1 qg B0 HW
  go_wp2_with fail
  exact bodyPost_ret (v := .tuple #[v, u]) (by simp [results, Try.results24, go_sem]) rfl ⟨⟨v, u, r1, r2, rfl, unhide FIN⟩, unhide B1⟩

set_option maxRecDepth 100000 in
set_option maxHeartbeats 400000 in
theorem sDropNest_any (a : Option Addr) (len cap : Nat) (l : List NestT) (ra : Option Addr) (rlen rcap : Nat) (g m : Bs) (w : World) (hl : len ≤ maxLen) (hs : SlNest w a len l) (hok : ∀ q ∈ l, NestT.Ok q) (hg : g.size ≤ maxLen) (hm : m.size ≤ maxLen) :
    Calls Try.prog 29 #[.slice a len cap, .slice ra rlen rcap, .agg #[.string g, .string m]] w fun e w' => (∃ v u r1 r2, e = .returned (.tuple #[v, u]) ∧ PChg l (g, m) (DropS l (g, m)) r1 r2 ∧ w'.ownsRow w.heap.size 42 2 v r1.length (NestsV r1) ∧ w'.ownsRow w.heap.size 70 3 u r2.length (ReachsV r2) ∧ DJ v u) ∧ Below w.heap.size w w' := by
  obtain ⟨W, hW⟩ : ∃ W, W = w.alloc (.cells #[.string g, .string m] 42) := ⟨_, rfl⟩
  have B0 := hide (show Below w.heap.size w W by rw [hW]; exact bAl (Below.refl _ _) _)
  have HW := hide hW.symm
  have qg := hide (l5Change_any a len cap l g m false W hl (hs.keep (unhide B0)) hok hg hm)
  clear hs hok hW
  unfold maxLen at hl
  go_enter Try.func29, Try.ntmps29
  go_wp2_with fail
  rw [unhide HW]
  refine (unhide qg).mono ?_
  rintro e w1 ⟨⟨v, u, r1, r2, rfl, hP, ho1, ho2, hd⟩, hb1⟩
  have FIN := hide (show PChg l (g, m) (DropS l (g, m)) r1 r2 ∧ w1.ownsRow w.heap.size 42 2 v r1.length (NestsV r1) ∧ w1.ownsRow w.heap.size 70 3 u r2.length (ReachsV r2) ∧ DJ v u from ⟨hP, own_base ho1 (unhide B0).size, own_base ho2 (unhide B0).size, hd⟩)
  have B1 := hide (bTr (unhide B0) hb1)
  clear hP ho1 ho2 hd hb1 qg B0 HW
  go_wp2_with fail
  exact bodyPost_ret (v := .tuple #[v, u]) (by simp [results, Try.results29, go_sem]) rfl ⟨⟨v, u, r1, r2, rfl, unhide FIN⟩, unhide B1⟩

end Go.Proofs.Ytakjnbdjjeccoaa
