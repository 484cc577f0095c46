/- WValR, ported from seat 1a. -/
import Derived.Test.YtobmdeoppbjjpaaWValT
namespace Go.Proofs.Ytobmdeoppbjjpaa.V
open Go.RowKit

end Go.Proofs.Ytobmdeoppbjjpaa.V
