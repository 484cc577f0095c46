/- GoodAtom of both, at every atom; laws.szAtom (21), laws.toAtom (22). -/
import Derived.Test.YtmfmcocnmkjalaaQAtS
namespace Go.Proofs.Ytmfmcocnmkjalaa
open Go.RowKit

end Go.Proofs.Ytmfmcocnmkjalaa
