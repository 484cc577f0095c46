/- WValR, ported from seat 1a. -/
import Derived.Test.YtflabaknembioaaWValT
namespace Go.Proofs.Ytflabaknembioaa.V
open Go.RowKit

end Go.Proofs.Ytflabaknembioaa.V
