/- GoodAtom of both, at every atom; laws.szAtom (21), laws.toAtom (22). -/
import Derived.Test.YtdggpfaefnaefaaQAtS
namespace Go.Proofs.Ytdggpfaefnaefaa
open Go.RowKit

end Go.Proofs.Ytdggpfaefnaefaa
