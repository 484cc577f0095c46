/- GoodAtom of both, at every atom; laws.szAtom (21), laws.toAtom (22). -/
import Derived.Test.YtlkpeolecfemnaaQAtS
namespace Go.Proofs.Ytlkpeolecfemnaa
open Go.RowKit

end Go.Proofs.Ytlkpeolecfemnaa
