/- WEq, ported from seat 1a. -/
import Derived.Test.YtfnnbdelmpahmaaDoorWRow
namespace Go.Proofs.YtfnnbdelmpahmaaDoor.V
open Go.RowKit

end Go.Proofs.YtfnnbdelmpahmaaDoor.V
