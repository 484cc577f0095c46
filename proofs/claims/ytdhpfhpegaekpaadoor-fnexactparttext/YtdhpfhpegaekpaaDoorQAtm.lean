/- GoodAtom of both, at every atom; laws.szAtom (21), laws.toAtom (22). -/
import Derived.Test.YtdhpfhpegaekpaaDoorQAtS
namespace Go.Proofs.YtdhpfhpegaekpaaDoor
open Go.RowKit

end Go.Proofs.YtdhpfhpegaekpaaDoor
