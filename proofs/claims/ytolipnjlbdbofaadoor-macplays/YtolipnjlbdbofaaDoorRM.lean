/- The first words are roots. No program is run here. -/
import Derived.Test.YtolipnjlbdbofaaDoorUM
import Derived.Test.YtolipnjlbdbofaaDoorW
import Derived.Test.YtolipnjlbdbofaaDoorC
namespace Go.Proofs.YtolipnjlbdbofaaDoor
open Go.RowKit
theorem first_roots : ∀ i, i < 8 → rootW ((primesL 8).getD i 0) 2 = first8.l.getD i 0 ∧ (primesL 8).getD i 0 ≤ 1000 := by decide +kernel
/-- the first words, as far as they are laid -/
def firstTo (k : Nat) : List UInt32 := first8.l.take k ++ List.replicate (8 - k) 0
theorem firstTo_set : ∀ k, k < 8 → (firstTo k).set k (first8.l.getD k 0) = firstTo (k + 1) ∧ (firstTo k).length = 8 := by decide +kernel
theorem firstTo_done : firstTo 8 = first8.l := by decide +kernel
end Go.Proofs.YtolipnjlbdbofaaDoor
