/- ether.Parse's deferred function: its two contracts; what two results read as that lie in blocks. -/
import Derived.Test.YtkjkmnaiddjjnaaVD
import Derived.Recover
import Derived.Laws.Pointers
namespace Go.Proofs.Ytkjkmnaiddjjnaa
open Go.RowKit
/-- what two results read as, the first of which lies in a row, the second in a cell -/
theorem results_row_cell {P : Program} {fn : Func} {p u : Tmp} {ty ty2 : TypeId} (h : fn.results = #[.cell p ty, .cell u ty2]) (tmps : Array Value) (w : World) (g : Nat) (t : TypeId) (cs : Array Value) (fr : Nat × Nat) (d : TypeDesc)
    (hp : tmps.getD p undef = .pointer (some ⟨g, 0, none⟩)) (hg : w.heap[g]? = some (.cells cs t fr))
    (hu : P.underlying ty = some d) (hd : (match d with | .struct _ | .array _ _ => true | _ => false) = true) (hi : (P.info? ty).map (·.size) = some cs.size)
    (a : Addr) (v : Value) (hq : tmps.getD u undef = .pointer (some a)) (hv : (loadVar ty2 a).run P w = .ok v w) :
    (results fn tmps).run P w = .ok (.tuple #[.agg cs, v]) w := by
  have hp' : tmps[p]?.getD undef = .pointer (some ⟨g, 0, none⟩) := by simpa using hp
  have hq' : tmps[u]?.getD undef = .pointer (some a) := by simpa using hq
  simp [results, h, hp', hq', asAddr, run_loadVar_row w g t ty cs fr d hg hu hd hi, hv]
theorem loadErr (a : Addr) (n : Int) (w : World) (hc : w.cell? a = some (.int .i64 n)) : (loadVar 29 a).run Try.prog w = .ok (.int .i64 n) w := by
  go_simp
end Go.Proofs.Ytkjkmnaiddjjnaa
