/- WCmpA, ported from seat 1a. -/
import Derived.Test.YtfdfglblcgdoiaaDoorWCmp
import Derived.Test.YtfdfglblcgdoiaaDoorQAtm
import Derived.Deep.RegionHeld3
import Derived.Deep.DeepCutAuto
namespace Go.Proofs.YtfdfglblcgdoiaaDoor.V
open Go.RowKit

def cmpG (x n : Int) (t y : ByteArray) (x' n' : Int) (t' y' : ByteArray) : Int :=
  if goodAtom x n t y = true ∧ goodAtom x' n' t' y' = true then cmpA x n t y x' n' t' y' else -2

end Go.Proofs.YtfdfglblcgdoiaaDoor.V
