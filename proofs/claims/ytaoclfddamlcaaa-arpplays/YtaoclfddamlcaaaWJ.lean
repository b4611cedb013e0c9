/- The law's Of, Plain, awake: walked; '==' of questions and answers that are the same. -/
import Derived.Test.YtaoclfddamlcaaaWE
import Derived.Test.YtaoclfddamlcaaaWH
import Derived.Test.YtaoclfddamlcaaaWI
import Derived.Test.YtaoclfddamlcaaaJ
namespace Go.Proofs.Ytaoclfddamlcaaa
open Go.RowKit
set_option maxRecDepth 20000 in
set_option maxHeartbeats 1000000 in
theorem of9_any (x : A9) (hx : x.Fit) (w : World) : Calls Try.prog 9 #[.agg x.c] w fun e w' => e = .returned (.agg x.c) ∧ Below w.heap.size w w' := by
  have M : Mem w [(w.heap.size, 26, x.c), (w.heap.size + 1, 31, az.c)] ((w.alloc (.cells x.c 26)).alloc (.cells az.c 31)) :=
    ((Mem.init w).alloc _ rfl _ _).alloc _ (by simp) _ _
  go_enter Try.func9, Try.ntmps9
  go_upto_region 1 with fail
  change Code.wp _ _ _ _ ((w.alloc (.cells x.c 26)).alloc (.cells az.c 31))
  generalize (w.alloc (.cells x.c 26)).alloc (.cells az.c 31) = W0 at M ⊢
  have r0 := M.row 0 rfl
  have c0 := r0.aop
  have r1 := M.row 1 rfl
  have HM := Lib.hid (M.store 1 rfl x.c)
  clear M
  go_wp2_with (first
    | (refine wpExec rfl (.agg (bs x.m)) (exec9_m r0 hx _ rfl rfl) ?_)
    | (refine wpExec rfl (.agg (bs x.t)) (exec9_t r0 hx _ rfl rfl) ?_)
    | (refine wpExec rfl (.agg (bs x.i)) (exec9_i r0 hx _ rfl rfl) ?_)
    | (refine wpExec rfl (.agg (bs x.w)) (exec9_w r0 hx _ rfl rfl) ?_)
    | (refine wpExec rfl (.agg x.c) (build9 hx _ _ _ _ _ rfl rfl rfl rfl rfl rfl) ?_)
    | (refine wpList_store_row rfl 31 (.tmp 2) (.tmp 13) rfl (w.heap.size + 1) x.c rfl rfl 31 az.c r1 (a9_info hx) (by rw [A9.size az_fit, A9.size hx]) (A9.one _) ?_))
  exact bodyPost_ret (v := .agg x.c) (results_cell_row rfl _ _ (w.heap.size + 1) 31 _ (0, 0) _ rfl (HM.out.row 1 rfl) Try.underlying31 rfl (a9_info hx)) rfl ⟨rfl, HM.out.below⟩
set_option maxRecDepth 20000 in
set_option maxHeartbeats 1000000 in
theorem plain9_any (x : A9) (hx : x.Fit) (w : World) : Calls Try.prog 11 #[.agg x.c] w fun e w' => e = .returned (.agg x.c) ∧ Below w.heap.size w w' := by
  have M : Mem w [(w.heap.size, 31, x.c), (w.heap.size + 1, 26, az.c)] ((w.alloc (.cells x.c 31)).alloc (.cells az.c 26)) :=
    ((Mem.init w).alloc _ rfl _ _).alloc _ (by simp) _ _
  go_enter Try.func11, Try.ntmps11
  go_upto_region 1 with fail
  change Code.wp _ _ _ _ ((w.alloc (.cells x.c 31)).alloc (.cells az.c 26))
  generalize (w.alloc (.cells x.c 31)).alloc (.cells az.c 26) = W0 at M ⊢
  have r0 := M.row 0 rfl
  have c0 := r0.aop
  have r1 := M.row 1 rfl
  have HM := Lib.hid (M.store 1 rfl x.c)
  clear M
  go_wp2_with (first
    | (refine wpExec rfl (.agg (bs x.m)) (exec9_m r0 hx _ rfl rfl) ?_)
    | (refine wpExec rfl (.agg (bs x.t)) (exec9_t r0 hx _ rfl rfl) ?_)
    | (refine wpExec rfl (.agg (bs x.i)) (exec9_i r0 hx _ rfl rfl) ?_)
    | (refine wpExec rfl (.agg (bs x.w)) (exec9_w r0 hx _ rfl rfl) ?_)
    | (refine wpExec rfl (.agg x.c) (build9r hx _ _ _ _ _ rfl rfl rfl rfl rfl rfl) ?_)
    | (refine wpList_store_row rfl 26 (.tmp 2) (.tmp 13) rfl (w.heap.size + 1) x.c rfl rfl 26 az.c r1 (r9_info hx) (by rw [A9.size az_fit, A9.size hx]) (A9.one _) ?_))
  exact bodyPost_ret (v := .agg x.c) (results_cell_row rfl _ _ (w.heap.size + 1) 26 _ (0, 0) _ rfl (HM.out.row 1 rfl) Try.underlying26 rfl (r9_info hx)) rfl ⟨rfl, HM.out.below⟩
/-- the document's example -/
def x9 : A9 := ⟨1, o6, o6, o4, o4⟩
theorem x9_fit : x9.Fit := ⟨rfl, rfl, rfl, rfl⟩
theorem x9_bytes : x9.bytes = [0, 1, 8, 0, 6, 4, 0, 1, 0, 0, 0, 0, 0, 0, 0, 0, 0, 0, 0, 0, 0, 0, 0, 0, 0, 0, 0, 0] := by decide +kernel
set_option maxRecDepth 20000 in
set_option maxHeartbeats 1000000 in
theorem awake9_any (w : World) : Calls Try.prog 7 #[] w fun e w' => e = .returned (.bool true) ∧ Below w.heap.size w w' := by
  have hp := fun W => print9_yes x9 x9_fit rfl W
  rw [x9_bytes, show x9.c = #[.int .i64 1, .int .u8 0, .int .u8 0, .int .u8 0, .int .u8 0, .int .u8 0, .int .u8 0, .int .u8 0, .int .u8 0, .int .u8 0, .int .u8 0, .int .u8 0, .int .u8 0, .int .u8 0, .int .u8 0, .int .u8 0, .int .u8 0, .int .u8 0, .int .u8 0, .int .u8 0, .int .u8 0] from rfl] at hp
  have HP := Lib.hid hp
  clear hp
  go_enter Try.func7, Try.ntmps7
  go_wp2_with (go_at_call 8; refine (HP.out _).mono ?_; rintro e w1 ⟨rfl, hb1⟩)
  go_ret
  exact ⟨rfl, hb1⟩
theorem same_ints (d : Nat) (t : TypeId) (n : Nat) (ht : Try.prog.underlying t = some (.array n 5)) (l : List UInt8) (hl : l.length = n) (w : World) : (Op.equalIn (d + 2) t (.agg (bs l)) (.agg (bs l))).run Try.prog w = .ok true w := by
  have h := eq_ints (P := Try.prog) w d t 5 .u8 n ht Try.underlying5 (by kernel_rfl) (l.map fun x => (x.toNat : Int)) (l.map fun x => (x.toNat : Int)) (by simpa using hl) (by simpa using hl)
  rw [beq_self_eq_true] at h
  simp only [List.map_map] at h
  exact h
section
variable {o : Oper} {ev : Operand → Value} {w : World}
theorem exec_same9 (x : A9) (hx : x.Fit) (p q : Operand) (ho : o.op = .binOp .eql 31 p q 31) (hp : ev p = .agg x.c) (hq : ev q = .agg x.c) :
    (execOp ev o).run Try.prog w = .ok (.value (.bool true)) w := by
  have hm := same_ints 9997 23 6 Try.underlying23 x.m hx.m w
  have ht := same_ints 9997 23 6 Try.underlying23 x.t hx.t w
  have hi := same_ints 9997 24 4 Try.underlying24 x.i hx.i w
  have hw := same_ints 9997 24 4 Try.underlying24 x.w hx.w w
  obtain ⟨m0, m1, m2, m3, m4, m5, t0, t1, t2, t3, t4, t5, i0, i1, i2, i3, k0, k1, k2, k3, em, et, ei, ew⟩ := A9.parts hx
  rw [a9_cells em et ei ew] at hp hq
  rw [em] at hm
  rw [et] at ht
  rw [ei] at hi
  rw [ew] at hw
  unfold bs at hm ht hi hw
  simp only [List.map_cons, List.map_nil] at hm ht hi hw
  unfold execOp
  simp only [ho, hp, hq]
  go_simp
theorem exec_same9r (x : A9) (hx : x.Fit) (p q : Operand) (ho : o.op = .binOp .eql 26 p q 26) (hp : ev p = .agg x.c) (hq : ev q = .agg x.c) :
    (execOp ev o).run Try.prog w = .ok (.value (.bool true)) w := by
  have hm := same_ints 9997 23 6 Try.underlying23 x.m hx.m w
  have ht := same_ints 9997 23 6 Try.underlying23 x.t hx.t w
  have hi := same_ints 9997 24 4 Try.underlying24 x.i hx.i w
  have hw := same_ints 9997 24 4 Try.underlying24 x.w hx.w w
  obtain ⟨m0, m1, m2, m3, m4, m5, t0, t1, t2, t3, t4, t5, i0, i1, i2, i3, k0, k1, k2, k3, em, et, ei, ew⟩ := A9.parts hx
  rw [a9_cells em et ei ew] at hp hq
  rw [em] at hm
  rw [et] at ht
  rw [ei] at hi
  rw [ew] at hw
  unfold bs at hm ht hi hw
  simp only [List.map_cons, List.map_nil] at hm ht hi hw
  unfold execOp
  simp only [ho, hp, hq]
  go_simp
theorem exec_same_mac (l : List UInt8) (hl : l.length = 6) (p q : Operand) (ho : o.op = .binOp .eql 23 p q 23) (hp : ev p = .agg (bs l)) (hq : ev q = .agg (bs l)) :
    (execOp ev o).run Try.prog w = .ok (.value (.bool true)) w := by
  have h := same_ints 9998 23 6 Try.underlying23 l hl w
  unfold execOp
  simp only [ho, hp, hq]
  go_simp
theorem exec_same_ip (l : List UInt8) (hl : l.length = 4) (p q : Operand) (ho : o.op = .binOp .eql 24 p q 24) (hp : ev p = .agg (bs l)) (hq : ev q = .agg (bs l)) :
    (execOp ev o).run Try.prog w = .ok (.value (.bool true)) w := by
  have h := same_ints 9998 24 4 Try.underlying24 l hl w
  unfold execOp
  simp only [ho, hp, hq]
  go_simp
end
end Go.Proofs.Ytaoclfddamlcaaa
