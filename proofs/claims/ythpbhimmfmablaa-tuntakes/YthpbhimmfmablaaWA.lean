/- An operation's value, said. No program is run here. -/
import Derived.Test.YthpbhimmfmablaaHG2
namespace Go.Proofs.Ythpbhimmfmablaa
open Go.RowKit
/-- an operation's value, said -/
theorem wpExec {P : Program} {ops : Array Oper} {rest : List Oper} {o : Oper} {a : Act} {w : World} {Q : Exit → Act → World → Prop} (hg : o.guard = none) (v : Value) (hex : (execOp a.eval o).run P w = .ok (.value v) w)
    (h : wpList P ops Q rest (a.put o.dst v) w) : wpList P ops Q (o :: rest) a w :=
  wpList_plain hg fun K hK => by
    unfold Oper.wp
    rw [hex]
    exact hK _ _ h
theorem wpExecG {P : Program} {ops : Array Oper} {rest : List Oper} {o : Oper} {a : Act} {w : World} {Q : Exit → Act → World → Prop} (hw : Region.wanted o (yielded ops a.tmps) = true) (v : Value) (hex : (execOp a.eval o).run P w = .ok (.value v) w)
    (h : wpList P ops Q rest (a.put o.dst v) w) : wpList P ops Q (o :: rest) a w := by
  simp only [wpList, hw, if_true]
  refine Or.inl ?_
  unfold Oper.wp
  rw [hex]
  exact h
end Go.Proofs.Ythpbhimmfmablaa
