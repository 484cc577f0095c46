/- WValR, ported from seat 1a. -/
import Derived.Test.YtbgakkbniekccaaWValT
namespace Go.Proofs.Ytbgakkbniekccaa.V
open Go.RowKit

end Go.Proofs.Ytbgakkbniekccaa.V
