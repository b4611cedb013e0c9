/- ether.Print: whatever the frame. -/
import Derived.Test.YtingcoojhfadgaaVK
namespace Go.Proofs.Ytingcoojhfadgaa
open Go.RowKit
/-- what Print answers -/
def printF (x : E8) : List UInt8 × Int := if x.right then (x.bytes, 0) else ([], 3)
end Go.Proofs.Ytingcoojhfadgaa
