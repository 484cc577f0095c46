/- WCmpA, ported from seat 1a. -/
import Derived.Test.YtbgakkbniekccaaWCmp
import Derived.Test.YtbgakkbniekccaaQAtm
import Derived.Deep.RegionHeld3
import Derived.Deep.DeepCutAuto
namespace Go.Proofs.Ytbgakkbniekccaa.V
open Go.RowKit

def cmpG (x n : Int) (t y : ByteArray) (x' n' : Int) (t' y' : ByteArray) : Int :=
  if goodAtom x n t y = true ∧ goodAtom x' n' t' y' = true then cmpA x n t y x' n' t' y' else -2

end Go.Proofs.Ytbgakkbniekccaa.V
