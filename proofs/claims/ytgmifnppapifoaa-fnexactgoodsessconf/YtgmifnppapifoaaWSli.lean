/- WSli, ported from seat 1a. -/
import Derived.Test.YtgmifnppapifoaaWRow
import Derived.Test.YtgmifnppapifoaaQAtm
namespace Go.Proofs.Ytgmifnppapifoaa.V
open Go.RowKit

end Go.Proofs.Ytgmifnppapifoaa.V
