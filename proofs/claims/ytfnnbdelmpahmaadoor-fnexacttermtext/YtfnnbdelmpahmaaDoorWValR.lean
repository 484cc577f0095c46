/- WValR, ported from seat 1a. -/
import Derived.Test.YtfnnbdelmpahmaaDoorWValT
namespace Go.Proofs.YtfnnbdelmpahmaaDoor.V
open Go.RowKit

end Go.Proofs.YtfnnbdelmpahmaaDoor.V
