/- The order of texts. -/
import Derived.Test.YtfabfgokammmhaaGCmp
namespace Go.Proofs.Ytfabfgokammmhaa
def cmpB (a b : ByteArray) : Int := cmpT a.data.toList b.data.toList
end Go.Proofs.Ytfabfgokammmhaa
