/- ether.Print: whatever the frame. -/
import Derived.Test.YthpbhimmfmablaaVK
namespace Go.Proofs.Ythpbhimmfmablaa
open Go.RowKit
/-- what Print answers -/
def printF (x : E8) : List UInt8 × Int := if x.right then (x.bytes, 0) else ([], 3)
end Go.Proofs.Ythpbhimmfmablaa
