/- WValR, ported from seat 1a. -/
import Derived.Test.YtfabfgokammmhaaWValT
namespace Go.Proofs.Ytfabfgokammmhaa.V
open Go.RowKit

end Go.Proofs.Ytfabfgokammmhaa.V
