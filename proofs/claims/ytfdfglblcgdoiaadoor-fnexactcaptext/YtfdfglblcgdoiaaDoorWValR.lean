/- WValR, ported from seat 1a. -/
import Derived.Test.YtfdfglblcgdoiaaDoorWValT
namespace Go.Proofs.YtfdfglblcgdoiaaDoor.V
open Go.RowKit

end Go.Proofs.YtfdfglblcgdoiaaDoor.V
