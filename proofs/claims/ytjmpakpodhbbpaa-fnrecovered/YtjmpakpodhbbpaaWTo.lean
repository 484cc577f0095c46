/- laws.toStringS, laws.toAtomS: the new rows may be written into. -/
import Derived.Test.YtjmpakpodhbbpaaWSli
namespace Go.Proofs.Ytjmpakpodhbbpaa.V
open Go.RowKit

end Go.Proofs.Ytjmpakpodhbbpaa.V
