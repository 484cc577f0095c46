/- WValJ, ported from seat 1a. -/
import Derived.Test.YtijfgfdagfchiaaWValI
namespace Go.Proofs.Ytijfgfdagfchiaa.V
open Go.RowKit

end Go.Proofs.Ytijfgfdagfchiaa.V
