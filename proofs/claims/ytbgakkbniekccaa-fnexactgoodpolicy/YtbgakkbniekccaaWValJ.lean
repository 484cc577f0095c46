/- WValJ, ported from seat 1a. -/
import Derived.Test.YtbgakkbniekccaaWValI
namespace Go.Proofs.Ytbgakkbniekccaa.V
open Go.RowKit

end Go.Proofs.Ytbgakkbniekccaa.V
