/- laws.toStringS, laws.toAtomS: the new rows may be written into. -/
import Derived.Test.YtgmifnppapifoaaWSli
namespace Go.Proofs.Ytgmifnppapifoaa.V
open Go.RowKit

end Go.Proofs.Ytgmifnppapifoaa.V
