/- GoodAtom of both, at every atom; laws.szAtom (21), laws.toAtom (22). -/
import Derived.Test.YtgmifnppapifoaaQAtS
namespace Go.Proofs.Ytgmifnppapifoaa
open Go.RowKit

end Go.Proofs.Ytgmifnppapifoaa
