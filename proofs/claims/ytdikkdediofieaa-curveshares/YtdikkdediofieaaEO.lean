/- law06.awake: walked; at the place 0 all share 0. -/
import Derived.Test.YtdikkdediofieaaEN
import Derived.Test.YtdikkdediofieaaJ
namespace Go.Proofs.Ytdikkdediofieaa
open Go.RowKit
theorem eqk (a b : List UInt8) (ha : a.length = 32) (hb : b.length = 32) (w : World) : (Op.equalIn 10000 23 (.agg (bs a)) (.agg (bs b))).run Try.prog w = .ok (a == b) w :=
  eq_bytes w 23 5 32 Try.underlying23 Try.underlying5 (by kernel_rfl) a b ha hb
section
variable {o : Oper} {ev : Operand → Value} {w : World} (x y : Operand) (a b : List UInt8) (ha : a.length = 32) (hb : b.length = 32)
include ha hb
theorem exec_eqk (ho : o.op = .binOp .eql 23 x y 23) (hx : ev x = .agg (bs a)) (hy : ev y = .agg (bs b)) : (execOp ev o).run Try.prog w = .ok (.value (.bool (a == b))) w := by
  have hq := eqk a b ha hb
  unfold execOp
  simp only [ho, hx, hy]
  generalize bs a = A at hq ⊢
  generalize bs b = B at hq ⊢
  generalize (a == b) = c at hq ⊢
  go_simp
theorem exec_neqk (ho : o.op = .binOp .neq 23 x y 23) (hx : ev x = .agg (bs a)) (hy : ev y = .agg (bs b)) : (execOp ev o).run Try.prog w = .ok (.value (.bool (!(a == b)))) w := by
  have hq := eqk a b ha hb
  unfold execOp
  simp only [ho, hx, hy]
  generalize bs a = A at hq ⊢
  generalize bs b = B at hq ⊢
  generalize (a == b) = c at hq ⊢
  go_simp
end
/-- two that are the same -/
theorem exec_sames {o : Oper} {ev : Operand → Value} {w : World} (x y : Operand) (a : List UInt8) (ha : a.length = 32) (ho : o.op = .binOp .eql 23 x y 23) (hx : ev x = .agg (bs a)) (hy : ev y = .agg (bs a)) : (execOp ev o).run Try.prog w = .ok (.value (.bool true)) w := by
  have h := exec_eqk (w := w) x y a a ha ha ho hx hy
  rw [beq_self_eq_true] at h
  exact h
section
variable {o : Oper} {ev : Operand → Value} {w : World} (x y : Operand) (a b : List UInt8) (ha : a.length = 32)
include ha
theorem exec_neq_same (ho : o.op = .binOp .neq 23 x y 23) (hx : ev x = .agg (bs a)) (hy : ev y = .agg (bs a)) : (execOp ev o).run Try.prog w = .ok (.value (.bool false)) w := by
  have h := exec_neqk (w := w) x y a a ha ha ho hx hy
  rw [beq_self_eq_true] at h
  exact h
/-- two that are not the same -/
theorem exec_others (hb : b.length = 32) (hne : a ≠ b) (ho : o.op = .binOp .eql 23 x y 23) (hx : ev x = .agg (bs a)) (hy : ev y = .agg (bs b)) : (execOp ev o).run Try.prog w = .ok (.value (.bool false)) w := by
  have h := exec_eqk (w := w) x y a b ha hb ho hx hy
  rw [beq_false_of_ne hne] at h
  exact h
theorem exec_neq_others (hb : b.length = 32) (hne : a ≠ b) (ho : o.op = .binOp .neq 23 x y 23) (hx : ev x = .agg (bs a)) (hy : ev y = .agg (bs b)) : (execOp ev o).run Try.prog w = .ok (.value (.bool true)) w := by
  have h := exec_neqk (w := w) x y a b ha hb ho hx hy
  rw [beq_false_of_ne hne] at h
  exact h
end
/-- an operation's value, said -/
theorem wpList_said {P : Program} {ops : Array Oper} {rest : List Oper} {o : Oper} {a : Act} {w : World} {Q : Exit → Act → World → Prop} (hw : Region.wanted o (yielded ops a.tmps) = true) (v : Value) (hex : (execOp a.eval o).run P w = .ok (.value v) w)
    (h : wpList P ops Q rest (a.put o.dst v) w) : wpList P ops Q (o :: rest) a w := by
  simp only [wpList, hw, if_true]
  refine Or.inl ?_
  unfold Oper.wp
  rw [hex]
  exact h
theorem fmul_zero (a : Nat) : fmul a 0 = 0 := by unfold fmul; rw [Nat.mul_zero]
theorem zero_fmul (a : Nat) : fmul 0 a = 0 := by unfold fmul; rw [Nat.zero_mul]
theorem fsub_self (a : Nat) (h : a < 57896044618658097711785492504343953926634992332820282019728792003956564819949) : fsub a a = 0 := by unfold fsub; rw [show a + (57896044618658097711785492504343953926634992332820282019728792003956564819949 - a) = 57896044618658097711785492504343953926634992332820282019728792003956564819949 from by omega]
theorem fadd_zero (a : Nat) (h : a < 57896044618658097711785492504343953926634992332820282019728792003956564819949) : fadd a 0 = a := by unfold fadd; rw [Nat.add_zero]; exact Nat.mod_eq_of_lt h
theorem fsub_zero (a : Nat) (h : a < 57896044618658097711785492504343953926634992332820282019728792003956564819949) : fsub a 0 = a := by unfold fsub; omega
theorem invF_succ (x k o : Nat) : invF x (k + 1) o = invF x k (if k ≠ 2 ∧ k ≠ 4 then fmul (fmul o o) x else fmul o o) := rfl
theorem ladF_succ (bit : Nat → Nat) (u k : Nat) (s : Two) : ladF bit u (k + 1) s = ladF bit u k (swapT (bit k) (stepT u (swapT (bit k) s))) := rfl
theorem invF_zero : ∀ k, invF 0 k 0 = 0
  | 0 => rfl
  | k + 1 => by
    rw [invF_succ, zero_fmul, zero_fmul, ite_self]
    exact invF_zero k
theorem finv_zero : finv 0 = 0 := by
  have h : finv 0 = invF 0 (254 + 1) 1 := rfl
  rw [h, invF_succ, if_pos ⟨by omega, by omega⟩, fmul_zero]
  exact invF_zero 254
/-- at the place 0: nothing is left of the second -/
def Flat (s : Two) : Prop := s.z = 0 ∧ s.t = 0 ∧ s.Ok
theorem flat_swap {b : Nat} {s : Two} (h : Flat s) : Flat (swapT b s) := by unfold swapT; split; exact ⟨h.2.1, h.1, h.2.2.2.2.1, h.2.2.2.2.2, h.2.2.1, h.2.2.2.1⟩; exact h
theorem flat_step {s : Two} (h : Flat s) : Flat (stepT 0 s) := by
  obtain ⟨hz, ht, hx, _, hw, _⟩ := h
  refine ⟨?_, zero_fmul _, stepT_ok 0 s⟩
  simp only [stepT]
  rw [hz, fadd_zero _ hx, fsub_zero _ hx, fsub_self _ (fmul_lt _ _), zero_fmul]
theorem flat_ladF (bit : Nat → Nat) : ∀ (k : Nat) (s : Two), Flat s → Flat (ladF bit 0 k s)
  | 0, _, h => h
  | k + 1, _, h => flat_ladF bit k _ (flat_swap (flat_step (flat_swap h)))
theorem flat_start (b : Nat) : Flat (stepT 0 (swapT b ⟨1, 0, 0, 1⟩)) := by
  refine ⟨?_, zero_fmul _, stepT_ok _ _⟩
  unfold swapT
  split <;> decide +kernel
theorem sharedN_zero (bit : Nat → Nat) : sharedN bit 0 = 0 := by
  have h : Flat (ladF bit 0 (254 + 1) ⟨1, 0, 0, 1⟩) := by
    rw [ladF_succ]
    exact flat_ladF bit 254 _ (flat_swap (flat_start _))
  have h2 : (ladF bit 0 255 ⟨1, 0, 0, 1⟩).z = 0 := h.1
  unfold sharedN
  rw [h2, finv_zero, fmul_zero]
def zeroK : List UInt8 := List.replicate 32 0
theorem lowB_zero : lowB 0 32 = zeroK := by decide +kernel
theorem sharedK_zero (a u : List UInt8) (h : placeN u = 0) : sharedK a u = zeroK := by
  unfold sharedK; rw [h, sharedN_zero, lowB_zero]
theorem place_zero : placeN zeroK = 0 := by decide +kernel
def threeK : List UInt8 := 3 :: List.replicate 31 0
def fiveK : List UInt8 := 5 :: List.replicate 31 0
def fifteenK : List UInt8 := 15 :: List.replicate 31 0
theorem mul_awake : mulK threeK fiveK = fifteenK := by decide +kernel
set_option maxHeartbeats 1000000 in
theorem awake6_any (w : World) : Calls Try.prog 10 #[] w fun e w' => e = .returned (.bool true) ∧ Below w.heap.size w w' := by
  have h1 := shared_any zeroK zeroK rfl rfl
  rw [sharedK_zero _ _ place_zero] at h1
  have h2 := mul_any threeK fiveK rfl rfl
  rw [mul_awake] at h2
  have H1 := Lib.hid h1
  have H2 := Lib.hid h2
  clear h1 h2
  go_enter Try.func10, Try.ntmps10
  go_wp2_with fail
  go_at_call 11
  refine (H1.out _).mono ?_
  rintro e w1 ⟨rfl, hb1⟩
  go_wp2_with (refine wpList_said rfl (.bool true) (exec_sames (.tmp 3) (.tmp 4) zeroK rfl rfl rfl rfl) ?_)
  go_at_call 14
  refine (H2.out _).mono ?_
  rintro e w2 ⟨rfl, hb2⟩
  go_wp2_with (refine wpList_said rfl (.bool true) (exec_sames (.tmp 9) (.tmp 10) fifteenK rfl rfl rfl rfl) ?_)
  go_ret
  exact ⟨rfl, hb1.trans (hb2.mono hb1.size)⟩
end Go.Proofs.Ytdikkdediofieaa
