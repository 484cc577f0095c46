/- WValJ, ported from seat 1a. -/
import Derived.Test.YtfnnbdelmpahmaaDoorWValI
namespace Go.Proofs.YtfnnbdelmpahmaaDoor.V
open Go.RowKit

end Go.Proofs.YtfnnbdelmpahmaaDoor.V
