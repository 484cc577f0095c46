/- WValR, WCmpA, one behind the other. -/
import Derived.Test.YtcajlndbaipcaaaJ12
import Derived.Test.YtcajlndbaipcaaaJ9
import Derived.Test.YtcajlndbaipcaaaJ6
import Derived.Deep.RegionHeld3
import Derived.Deep.DeepCutAuto
/- WValR, ported from seat 1a. -/
namespace Go.Proofs.Ytcajlndbaipcaaa.V
open Go.RowKit

end Go.Proofs.Ytcajlndbaipcaaa.V
/- WCmpA, ported from seat 1a. -/
namespace Go.Proofs.Ytcajlndbaipcaaa.V
open Go.RowKit

def cmpG (x n : Int) (t y : ByteArray) (x' n' : Int) (t' y' : ByteArray) : Int :=
  if goodAtom x n t y = true ∧ goodAtom x' n' t' y' = true then cmpA x n t y x' n' t' y' else -2

end Go.Proofs.Ytcajlndbaipcaaa.V
