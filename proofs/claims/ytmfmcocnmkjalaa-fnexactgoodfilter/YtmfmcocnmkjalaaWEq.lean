/- WEq, ported from seat 1a. -/
import Derived.Test.YtmfmcocnmkjalaaWRow
namespace Go.Proofs.Ytmfmcocnmkjalaa.V
open Go.RowKit

end Go.Proofs.Ytmfmcocnmkjalaa.V
