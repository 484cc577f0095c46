/- GoodAtom of both, at every atom; laws.szAtom (21), laws.toAtom (22). -/
import Derived.Test.YtoikjamafglilaaQAtS
namespace Go.Proofs.Ytoikjamafglilaa
open Go.RowKit

end Go.Proofs.Ytoikjamafglilaa
