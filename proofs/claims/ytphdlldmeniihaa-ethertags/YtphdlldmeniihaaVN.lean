/- Two frames that are the same are the same by '=='. -/
import Derived.Test.YtphdlldmeniihaaVM
import Derived.Test.YtphdlldmeniihaaJ
namespace Go.Proofs.Ytphdlldmeniihaa
open Go.RowKit
theorem head_le (x : E8) : x.head ≤ 18 := by
  unfold E8.head
  split <;> omega
theorem bytes_small {x : E8} (hx : x.Six) (h : x.b.size ≤ 2000) : (⟨x.bytes.toArray⟩ : ByteArray).size ≤ 1000000 := by
  have := head_le x
  rw [str_size, bytes_length hx]
  omega
theorem same_mac (a0 a1 a2 a3 a4 a5 : UInt8) (w : World) : (Op.equalIn 9998 23 (.agg #[B8 a0, B8 a1, B8 a2, B8 a3, B8 a4, B8 a5]) (.agg #[B8 a0, B8 a1, B8 a2, B8 a3, B8 a4, B8 a5])).run Try.prog w = .ok true w := by
  have h := eq_ints (P := Try.prog) w 9996 23 5 .u8 6 Try.underlying23 Try.underlying5 (by kernel_rfl) [(a0.toNat : Int), a1.toNat, a2.toNat, a3.toNat, a4.toNat, a5.toNat] [(a0.toNat : Int), a1.toNat, a2.toNat, a3.toNat, a4.toNat, a5.toNat] rfl rfl
  rw [beq_self_eq_true] at h
  exact h
section
variable {o : Oper} {ev : Operand → Value} {w : World}
theorem exec_same (x : E8) (hx : x.Six) (p q : Operand) (ho : o.op = .binOp .eql 32 p q 32) (hp : ev p = .agg x.c) (hq : ev q = .agg x.c) :
    (execOp ev o).run Try.prog w = .ok (.value (.bool true)) w := by
  obtain ⟨a0, a1, a2, a3, a4, a5, b0, b1, b2, b3, b4, b5, hd, hs⟩ := six_cases hx
  rw [cells_of hd hs] at hp hq
  have h1 := same_mac a0 a1 a2 a3 a4 a5 w
  have h2 := same_mac b0 b1 b2 b3 b4 b5 w
  unfold execOp
  simp only [ho, hp, hq]
  go_simp
theorem exec_same8 (x : E8) (hx : x.Six) (p q : Operand) (ho : o.op = .binOp .eql 27 p q 27) (hp : ev p = .agg x.c) (hq : ev q = .agg x.c) :
    (execOp ev o).run Try.prog w = .ok (.value (.bool true)) w := by
  obtain ⟨a0, a1, a2, a3, a4, a5, b0, b1, b2, b3, b4, b5, hd, hs⟩ := six_cases hx
  rw [cells_of hd hs] at hp hq
  have h1 := same_mac a0 a1 a2 a3 a4 a5 w
  have h2 := same_mac b0 b1 b2 b3 b4 b5 w
  unfold execOp
  simp only [ho, hp, hq]
  go_simp
end
/-- an operation's value, said -/
theorem wpExec {P : Program} {ops : Array Oper} {rest : List Oper} {o : Oper} {a : Act} {w : World} {Q : Exit → Act → World → Prop} (hg : o.guard = none) (v : Value) (hex : (execOp a.eval o).run P w = .ok (.value v) w)
    (h : wpList P ops Q rest (a.put o.dst v) w) : wpList P ops Q (o :: rest) a w :=
  wpList_plain hg fun K hK => by
    unfold Oper.wp
    rw [hex]
    exact hK _ _ h
theorem wpExecG {P : Program} {ops : Array Oper} {rest : List Oper} {o : Oper} {a : Act} {w : World} {Q : Exit → Act → World → Prop} (hw : Region.wanted o (yielded ops a.tmps) = true) (v : Value) (hex : (execOp a.eval o).run P w = .ok (.value v) w)
    (h : wpList P ops Q rest (a.put o.dst v) w) : wpList P ops Q (o :: rest) a w := by
  simp only [wpList, hw, if_true]
  refine Or.inl ?_
  unfold Oper.wp
  rw [hex]
  exact h
theorem ez_size {x : E8} (hx : x.Six) : ez.c.size = x.c.size := by rw [E8.size ez_six, E8.size hx]
end Go.Proofs.Ytphdlldmeniihaa
