/- Texts: spec.l1Printed, impl.goodText. -/
import Derived.Test.YtjmpakpodhbbpaaQName
import Derived.Deep.QuietTactic
import Derived.BigQuiet
namespace Go.Proofs.Ytjmpakpodhbbpaa
open Go.RowKit

/-- A callee's contract 'the very world', within a region that draws. -/
theorem quiet_same {P : Program} {f : FuncId} {args : Array Value} {w : World} {n : Nat} {v : Value}
    (h : Calls P f args (w.drewN n) fun e w' => e = .returned v ∧ w.drewN n = w') : Calls P f args (w.drewN n) fun e w'' => e = .returned v ∧ ∃ m, w'' = w.drewN m :=
  h.mono fun _ _ ⟨he, hm⟩ => ⟨he, n, hm.symm⟩


def textL (s : ByteArray) : Bool := s.data.toList.all fun b => priB b.toNat

end Go.Proofs.Ytjmpakpodhbbpaa
