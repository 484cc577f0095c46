/- WValJ, ported from seat 1a. -/
import Derived.Test.YtfdfglblcgdoiaaDoorWValI
namespace Go.Proofs.YtfdfglblcgdoiaaDoor.V
open Go.RowKit

end Go.Proofs.YtfdfglblcgdoiaaDoor.V
