/- WEq, ported from seat 1a. -/
import Derived.Test.YtjmpakpodhbbpaaWRow
namespace Go.Proofs.Ytjmpakpodhbbpaa.V
open Go.RowKit

end Go.Proofs.Ytjmpakpodhbbpaa.V
