/- GoodAtom of both, at every atom; laws.szAtom (21), laws.toAtom (22). -/
import Derived.Test.YtinbmibfflebcaaDoorQAtS
namespace Go.Proofs.YtinbmibfflebcaaDoor
open Go.RowKit

end Go.Proofs.YtinbmibfflebcaaDoor
