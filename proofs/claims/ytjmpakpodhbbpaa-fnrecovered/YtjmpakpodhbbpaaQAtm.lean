/- GoodAtom of both, at every atom; laws.szAtom (21), laws.toAtom (22). -/
import Derived.Test.YtjmpakpodhbbpaaQAtS
namespace Go.Proofs.Ytjmpakpodhbbpaa
open Go.RowKit

end Go.Proofs.Ytjmpakpodhbbpaa
