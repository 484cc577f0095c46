/- GoodAtom of both, at every atom; laws.szAtom (21), laws.toAtom (22). -/
import Derived.Test.YtflabaknembioaaQAtS
namespace Go.Proofs.Ytflabaknembioaa
open Go.RowKit

end Go.Proofs.Ytflabaknembioaa
