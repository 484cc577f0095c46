/- GoodAtom of both, at every atom; laws.szAtom (21), laws.toAtom (22). -/
import Derived.Test.YtfbkaoepopmggaaDoorQAtS
namespace Go.Proofs.YtfbkaoepopmggaaDoor
open Go.RowKit

end Go.Proofs.YtfbkaoepopmggaaDoor
