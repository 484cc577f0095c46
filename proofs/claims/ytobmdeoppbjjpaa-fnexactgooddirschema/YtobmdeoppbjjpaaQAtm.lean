/- GoodAtom of both, at every atom; laws.szAtom (21), laws.toAtom (22). -/
import Derived.Test.YtobmdeoppbjjpaaQAtS
namespace Go.Proofs.Ytobmdeoppbjjpaa
open Go.RowKit

end Go.Proofs.Ytobmdeoppbjjpaa
