/- WValR, WCmpA, one behind the other. -/
import Derived.Test.YtfbncneeimikcaaGreatJ18
import Derived.Test.YtfbncneeimikcaaGreatJ10
import Derived.Test.YtfbncneeimikcaaGreatJ5
import Derived.Deep.RegionHeld3
import Derived.Deep.DeepCutAuto
/- WValR, ported from seat 1a. -/
namespace Go.Proofs.YtfbncneeimikcaaGreat.V
open Go.RowKit

end Go.Proofs.YtfbncneeimikcaaGreat.V
/- WCmpA, ported from seat 1a. -/
namespace Go.Proofs.YtfbncneeimikcaaGreat.V
open Go.RowKit

def cmpG (x n : Int) (t y : ByteArray) (x' n' : Int) (t' y' : ByteArray) : Int :=
  if goodAtom x n t y = true ∧ goodAtom x' n' t' y' = true then cmpA x n t y x' n' t' y' else -2

end Go.Proofs.YtfbncneeimikcaaGreat.V
