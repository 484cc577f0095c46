/- GoodAtom of both, at every atom; laws.szAtom (21), laws.toAtom (22). -/
import Derived.Test.YtdpedpikmmedjaaDoorQAtS
namespace Go.Proofs.YtdpedpikmmedjaaDoor
open Go.RowKit

end Go.Proofs.YtdpedpikmmedjaaDoor
