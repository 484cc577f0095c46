/- impl.goodBlock (70), impl.goodNum (50). -/
import Derived.Test.YtdhpfhpegaekpaaDoorQNum
import Derived.Deep.RegionWith
namespace Go.Proofs.YtdhpfhpegaekpaaDoor
open Go.RowKit

/-- A block of addresses: first and bits in one number. -/
def blockB (n : Int) : Bool := decide (0 ≤ n) && (decide (n % 64 ≤ 32) && (decide (n / 64 < 4294967296) && ((n / 64) % pw (32 - n % 64).toNat == 0)))

def numB (k n : Int) : Bool := if k = 1 then n == 0 || n == 1 else if k = 6 then blockB n else if k = 7 then decide (-100000000000 ≤ n) && decide (n ≤ 100000000000) else true

end Go.Proofs.YtdhpfhpegaekpaaDoor
