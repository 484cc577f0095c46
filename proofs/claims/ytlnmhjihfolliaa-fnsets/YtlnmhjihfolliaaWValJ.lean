/- WValJ, ported from seat 1a. -/
import Derived.Test.YtlnmhjihfolliaaWValI
namespace Go.Proofs.Ytlnmhjihfolliaa.V
open Go.RowKit

end Go.Proofs.Ytlnmhjihfolliaa.V
