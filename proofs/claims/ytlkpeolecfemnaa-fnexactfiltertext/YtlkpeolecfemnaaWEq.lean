/- WEq, ported from seat 1a. -/
import Derived.Test.YtlkpeolecfemnaaWRow
namespace Go.Proofs.Ytlkpeolecfemnaa.V
open Go.RowKit

end Go.Proofs.Ytlkpeolecfemnaa.V
