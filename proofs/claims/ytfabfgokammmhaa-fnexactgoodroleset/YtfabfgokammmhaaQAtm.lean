/- GoodAtom of both, at every atom; laws.szAtom (21), laws.toAtom (22). -/
import Derived.Test.YtfabfgokammmhaaQAtS
namespace Go.Proofs.Ytfabfgokammmhaa
open Go.RowKit

end Go.Proofs.Ytfabfgokammmhaa
