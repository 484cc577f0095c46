/- What the law of ReachOf imports. -/
import Derived.Test.YtakjnbdjjeccoaaGRcS
import Derived.Test.YtakjnbdjjeccoaaGXs
namespace Go.Proofs.Ytakjnbdjjeccoaa
open Go.RowKit

theorem reach_max {l : List NestT} {r : List ReachT} (h : PRea l r) : r.length ≤ 40000 := h.len
end Go.Proofs.Ytakjnbdjjeccoaa
