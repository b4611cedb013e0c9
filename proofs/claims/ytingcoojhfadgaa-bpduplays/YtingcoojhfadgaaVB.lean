/- ether.demand, rightType, Right, strings.Clone: walked. -/
import Derived.Test.YtingcoojhfadgaaVA
import Derived.Lib.UnsafeStr
namespace Go.Proofs.Ytingcoojhfadgaa
open Go.RowKit
/-- what demand ends with -/
def demanded (b : Bool) (n : Int) : Ending := if b then .returned (.tuple #[]) else thrown n
theorem demanded_yes {n : Int} : demanded true n = .returned (.tuple #[]) := rfl
theorem demanded_no {n : Int} : demanded false n = thrown n := rfl
theorem ret_bool {b c : Bool} (h : b = true ↔ c = true) : Ending.returned (.bool b) = .returned (.bool c) := by rw [Bool.eq_iff_iff.2 h]
end Go.Proofs.Ytingcoojhfadgaa
