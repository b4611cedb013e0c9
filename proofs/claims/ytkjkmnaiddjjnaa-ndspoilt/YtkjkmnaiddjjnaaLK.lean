/- The law's Of, Plain, awake; the document's Right: walked. -/
import Derived.Test.YtkjkmnaiddjjnaaLD
namespace Go.Proofs.Ytkjkmnaiddjjnaa
open Go.RowKit
set_option maxRecDepth 20000 in
set_option maxHeartbeats 1000000 in
theorem of10_any (x : N10) (hx : x.Fit) (w : World) : Calls Try.prog 9 #[.agg x.c] w fun e w' => e = .returned (.agg x.c) ∧ Below w.heap.size w w' := by
  have M : Mem w [(w.heap.size, 27, x.c), (w.heap.size + 1, 32, nz.c)] ((w.alloc (.cells x.c 27)).alloc (.cells nz.c 32)) :=
    ((Mem.init w).alloc _ rfl _ _).alloc _ (by simp) _ _
  go_enter Try.func9, Try.ntmps9
  go_upto_region 1 with fail
  change Code.wp _ _ _ _ ((w.alloc (.cells x.c 27)).alloc (.cells nz.c 32))
  generalize (w.alloc (.cells x.c 27)).alloc (.cells nz.c 32) = W0 at M ⊢
  have r0 := M.row 0 rfl
  have c0 := r0.n_op
  have c5 := r0.n_h hx
  have r1 := M.row 1 rfl
  have HM := Lib.hid (M.store 1 rfl x.c)
  clear M
  go_wp2_with (first
    | (refine wpExec rfl (.agg (bs x.f)) (exec10_f r0 hx _ rfl rfl) ?_)
    | (refine wpExec rfl (.agg (bs x.t)) (exec10_t r0 hx _ rfl rfl) ?_)
    | (refine wpExec rfl (.agg (bs x.a)) (exec10_a r0 hx _ rfl rfl) ?_)
    | (refine wpExec rfl (.agg (bs x.m)) (exec10_m r0 hx _ rfl rfl) ?_)
    | (refine wpExec rfl (.agg (bs x.g)) (exec10_g r0 hx _ rfl rfl) ?_)
    | (refine wpExec rfl (.agg x.c) (build10 hx _ _ _ _ _ _ _ rfl rfl rfl rfl rfl rfl rfl rfl) ?_)
    | (refine wpList_store_row rfl 32 (.tmp 2) (.tmp 17) rfl (w.heap.size + 1) x.c rfl rfl 32 nz.c r1 (n10_info hx) (by rw [N10.size nz_fit, N10.size hx]) (N10.one _) ?_))
  exact bodyPost_ret (v := .agg x.c) (results_cell_row rfl _ _ (w.heap.size + 1) 32 _ (0, 0) _ rfl (HM.out.row 1 rfl) Try.underlying32 rfl (n10_info hx)) rfl ⟨rfl, HM.out.below⟩
set_option maxRecDepth 20000 in
set_option maxHeartbeats 1000000 in
theorem plain10_any (x : N10) (hx : x.Fit) (w : World) : Calls Try.prog 12 #[.agg x.c] w fun e w' => e = .returned (.agg x.c) ∧ Below w.heap.size w w' := by
  have M : Mem w [(w.heap.size, 32, x.c), (w.heap.size + 1, 27, nz.c)] ((w.alloc (.cells x.c 32)).alloc (.cells nz.c 27)) :=
    ((Mem.init w).alloc _ rfl _ _).alloc _ (by simp) _ _
  go_enter Try.func12, Try.ntmps12
  go_upto_region 1 with fail
  change Code.wp _ _ _ _ ((w.alloc (.cells x.c 32)).alloc (.cells nz.c 27))
  generalize (w.alloc (.cells x.c 32)).alloc (.cells nz.c 27) = W0 at M ⊢
  have r0 := M.row 0 rfl
  have c0 := r0.n_op
  have c5 := r0.n_h hx
  have r1 := M.row 1 rfl
  have HM := Lib.hid (M.store 1 rfl x.c)
  clear M
  go_wp2_with (first
    | (refine wpExec rfl (.agg (bs x.f)) (exec10_f r0 hx _ rfl rfl) ?_)
    | (refine wpExec rfl (.agg (bs x.t)) (exec10_t r0 hx _ rfl rfl) ?_)
    | (refine wpExec rfl (.agg (bs x.a)) (exec10_a r0 hx _ rfl rfl) ?_)
    | (refine wpExec rfl (.agg (bs x.m)) (exec10_m r0 hx _ rfl rfl) ?_)
    | (refine wpExec rfl (.agg (bs x.g)) (exec10_g r0 hx _ rfl rfl) ?_)
    | (refine wpExec rfl (.agg x.c) (build10r hx _ _ _ _ _ _ _ rfl rfl rfl rfl rfl rfl rfl rfl) ?_)
    | (refine wpList_store_row rfl 27 (.tmp 2) (.tmp 17) rfl (w.heap.size + 1) x.c rfl rfl 27 nz.c r1 (r10_info hx) (by rw [N10.size nz_fit, N10.size hx]) (N10.one _) ?_))
  exact bodyPost_ret (v := .agg x.c) (results_cell_row rfl _ _ (w.heap.size + 1) 27 _ (0, 0) _ rfl (HM.out.row 1 rfl) Try.underlying27 rfl (r10_info hx)) rfl ⟨rfl, HM.out.below⟩
theorem exec_indexV {o : Oper} {ev : Operand → Value} {w : World} (p q : Operand) (s : ByteArray) (i : Nat) (b : UInt8) (hi : i < s.size) (hb : bAt s i = b) (ho : o.op = .index 9 p q) (hp : ev p = .string s) (hq : ev q = .int .i64 (i : Int)) : (execOp ev o).run Try.prog w = .ok (.value (.int .u8 (b.toNat : Int))) w := by
  rw [← hb]
  exact exec_index p q s i hi ho hp hq
/-- the document's example -/
def x10 : N10 := ⟨1, o16, o16, o16, o6, false, o4⟩
theorem x10_fit : x10.Fit := ⟨rfl, rfl, rfl, rfl, rfl⟩
theorem x10_len : (⟨x10.bytes.toArray⟩ : ByteArray).size = 64 := by rw [str_size, N10.bytes_length x10_fit]; rfl
theorem x10_six : bAt ⟨x10.bytes.toArray⟩ 6 = 58 := by
  unfold bAt
  rw [str_list]
  rfl
set_option maxRecDepth 20000 in
set_option maxHeartbeats 1000000 in
theorem awake10_any (w : World) : Calls Try.prog 7 #[] w fun e w' => e = .returned (.bool true) ∧ Below w.heap.size w w' := by
  have hp := fun W => print10_bare x10 x10_fit rfl rfl rfl W
  have hl := x10_len
  have h6 := x10_six
  generalize (⟨x10.bytes.toArray⟩ : ByteArray) = T at hp hl h6
  have HP := Lib.hid hp
  have H6 := Lib.hid (And.intro (show 6 < T.size by omega) h6)
  clear hp h6
  have hl2 : (T.size : Int) = 64 := by omega
  clear hl
  go_enter Try.func7, Try.ntmps7
  go_wp2_with (first
    | (refine wpExec rfl (.agg x10.c) (build10q (.const (.int .i64 1)) 1 rfl rfl) ?_)
    | (go_at_call 8; refine (HP.out _).mono ?_; rintro e w1 ⟨rfl, hb1⟩)
    | (refine wpExecG (by kernel_rfl) (.int .u8 58) (exec_indexV (.tmp 16) (.const (.int .i64 6)) T 6 58 H6.out.1 H6.out.2 rfl rfl rfl) ?_))
  go_ret
  exact ⟨rfl, hb1⟩
set_option maxRecDepth 20000 in
theorem right10_no (x : N10) (hx : x.Fit) (hk : rightO x.op = false) (w : World) : Calls Try.prog 10 #[.agg x.c] w fun e w' => e = .returned (.bool false) ∧ Below w.heap.size w w' := by
  have M : Mem w [(w.heap.size, 27, x.c)] (w.alloc (.cells x.c 27)) := (Mem.init w).alloc _ rfl _ _
  have r0 := M.row 0 rfl
  have co := r0.n_op
  have ch := r0.n_h hx
  have h1 : (x.op == 1) = false := by unfold rightO at hk; simp only [Bool.or_eq_false_iff] at hk; exact hk.1
  have h2 : (x.op == 2) = false := by unfold rightO at hk; simp only [Bool.or_eq_false_iff] at hk; exact hk.2
  clear hk ch
  have HB := Lib.hid M.below
  clear M
  go_enter Try.func10, Try.ntmps10
  go_wp2
  go_ret
  exact ⟨rfl, HB.out⟩
set_option maxRecDepth 20000 in
theorem right10_onefull (x : N10) (hx : x.Fit) (hk : x.op = 1) (hh : x.h = true) (w : World) : Calls Try.prog 10 #[.agg x.c] w fun e w' => e = .returned (.bool true) ∧ Below w.heap.size w w' := by
  have M : Mem w [(w.heap.size, 27, x.c)] (w.alloc (.cells x.c 27)) := (Mem.init w).alloc _ rfl _ _
  have r0 := M.row 0 rfl
  have co := r0.n_op
  have ch := r0.n_h hx
  rw [hk] at co
  rw [hh] at ch
  have HB := Lib.hid M.below
  clear M
  go_enter Try.func10, Try.ntmps10
  go_wp2
  go_ret
  exact ⟨rfl, HB.out⟩
set_option maxRecDepth 20000 in
theorem right10_onebare (x : N10) (hx : x.Fit) (hk : x.op = 1) (hh : x.h = false) (hm : (x.m == o6) = true) (w : World) : Calls Try.prog 10 #[.agg x.c] w fun e w' => e = .returned (.bool true) ∧ Below w.heap.size w w' := by
  have M : Mem w [(w.heap.size, 27, x.c)] (w.alloc (.cells x.c 27)) := (Mem.init w).alloc _ rfl _ _
  have r0 := M.row 0 rfl
  have co := r0.n_op
  have ch := r0.n_h hx
  rw [hk] at co
  rw [hh] at ch
  have HN := Lib.hid hm
  clear hm
  have HB := Lib.hid M.below
  clear M
  go_enter Try.func10, Try.ntmps10
  go_wp2_with (first
    | (refine wpExecG (by kernel_rfl) (.agg (bs x.m)) (exec10_m r0 hx _ rfl rfl) ?_)
    | (refine wpExecG (by kernel_rfl) (.agg (bs o6)) (build_o6 rfl) ?_)
    | (refine wpExecG (by kernel_rfl) (.bool true) (by rw [← HN.out]; exact exec_eqB 24 6 Try.underlying24 (by kernel_rfl) _ _ x.m o6 hx.m rfl rfl rfl rfl) ?_))
  go_ret
  exact ⟨rfl, HB.out⟩
set_option maxRecDepth 20000 in
theorem right10_onemac (x : N10) (hx : x.Fit) (hk : x.op = 1) (hh : x.h = false) (hm : (x.m == o6) = false) (w : World) : Calls Try.prog 10 #[.agg x.c] w fun e w' => e = .returned (.bool false) ∧ Below w.heap.size w w' := by
  have M : Mem w [(w.heap.size, 27, x.c)] (w.alloc (.cells x.c 27)) := (Mem.init w).alloc _ rfl _ _
  have r0 := M.row 0 rfl
  have co := r0.n_op
  have ch := r0.n_h hx
  rw [hk] at co
  rw [hh] at ch
  have HN := Lib.hid hm
  clear hm
  have HB := Lib.hid M.below
  clear M
  go_enter Try.func10, Try.ntmps10
  go_wp2_with (first
    | (refine wpExecG (by kernel_rfl) (.agg (bs x.m)) (exec10_m r0 hx _ rfl rfl) ?_)
    | (refine wpExecG (by kernel_rfl) (.agg (bs o6)) (build_o6 rfl) ?_)
    | (refine wpExecG (by kernel_rfl) (.bool false) (by rw [← HN.out]; exact exec_eqB 24 6 Try.underlying24 (by kernel_rfl) _ _ x.m o6 hx.m rfl rfl rfl rfl) ?_))
  go_ret
  exact ⟨rfl, HB.out⟩
set_option maxRecDepth 20000 in
theorem right10_twofull (x : N10) (hx : x.Fit) (hk : x.op = 2) (hh : x.h = true) (w : World) : Calls Try.prog 10 #[.agg x.c] w fun e w' => e = .returned (.bool true) ∧ Below w.heap.size w w' := by
  have M : Mem w [(w.heap.size, 27, x.c)] (w.alloc (.cells x.c 27)) := (Mem.init w).alloc _ rfl _ _
  have r0 := M.row 0 rfl
  have co := r0.n_op
  have ch := r0.n_h hx
  rw [hk] at co
  rw [hh] at ch
  have HB := Lib.hid M.below
  clear M
  go_enter Try.func10, Try.ntmps10
  go_wp2
  go_ret
  exact ⟨rfl, HB.out⟩
set_option maxRecDepth 20000 in
theorem right10_twobare (x : N10) (hx : x.Fit) (hk : x.op = 2) (hh : x.h = false) (hm : (x.m == o6) = true) (w : World) : Calls Try.prog 10 #[.agg x.c] w fun e w' => e = .returned (.bool true) ∧ Below w.heap.size w w' := by
  have M : Mem w [(w.heap.size, 27, x.c)] (w.alloc (.cells x.c 27)) := (Mem.init w).alloc _ rfl _ _
  have r0 := M.row 0 rfl
  have co := r0.n_op
  have ch := r0.n_h hx
  rw [hk] at co
  rw [hh] at ch
  have HN := Lib.hid hm
  clear hm
  have HB := Lib.hid M.below
  clear M
  go_enter Try.func10, Try.ntmps10
  go_wp2_with (first
    | (refine wpExecG (by kernel_rfl) (.agg (bs x.m)) (exec10_m r0 hx _ rfl rfl) ?_)
    | (refine wpExecG (by kernel_rfl) (.agg (bs o6)) (build_o6 rfl) ?_)
    | (refine wpExecG (by kernel_rfl) (.bool true) (by rw [← HN.out]; exact exec_eqB 24 6 Try.underlying24 (by kernel_rfl) _ _ x.m o6 hx.m rfl rfl rfl rfl) ?_))
  go_ret
  exact ⟨rfl, HB.out⟩
set_option maxRecDepth 20000 in
theorem right10_twomac (x : N10) (hx : x.Fit) (hk : x.op = 2) (hh : x.h = false) (hm : (x.m == o6) = false) (w : World) : Calls Try.prog 10 #[.agg x.c] w fun e w' => e = .returned (.bool false) ∧ Below w.heap.size w w' := by
  have M : Mem w [(w.heap.size, 27, x.c)] (w.alloc (.cells x.c 27)) := (Mem.init w).alloc _ rfl _ _
  have r0 := M.row 0 rfl
  have co := r0.n_op
  have ch := r0.n_h hx
  rw [hk] at co
  rw [hh] at ch
  have HN := Lib.hid hm
  clear hm
  have HB := Lib.hid M.below
  clear M
  go_enter Try.func10, Try.ntmps10
  go_wp2_with (first
    | (refine wpExecG (by kernel_rfl) (.agg (bs x.m)) (exec10_m r0 hx _ rfl rfl) ?_)
    | (refine wpExecG (by kernel_rfl) (.agg (bs o6)) (build_o6 rfl) ?_)
    | (refine wpExecG (by kernel_rfl) (.bool false) (by rw [← HN.out]; exact exec_eqB 24 6 Try.underlying24 (by kernel_rfl) _ _ x.m o6 hx.m rfl rfl rfl rfl) ?_))
  go_ret
  exact ⟨rfl, HB.out⟩
/-- Right, whatever the question or answer -/
theorem right10_any (x : N10) (hx : x.Fit) (w : World) : Calls Try.prog 10 #[.agg x.c] w fun e w' => e = .returned (.bool x.right) ∧ Below w.heap.size w w' := by
  unfold N10.right
  cases hr : rightO x.op with
  | false => exact right10_no x hx hr w
  | true =>
    rcases rightO_spec hr with hk | hk
    · cases hh : x.h with
      | true => exact right10_onefull x hx hk hh w
      | false =>
        cases hm : x.m == o6 with
        | true => exact right10_onebare x hx hk hh hm w
        | false => exact right10_onemac x hx hk hh hm w
    · cases hh : x.h with
      | true => exact right10_twofull x hx hk hh w
      | false =>
        cases hm : x.m == o6 with
        | true => exact right10_twobare x hx hk hh hm w
        | false => exact right10_twomac x hx hk hh hm w
end Go.Proofs.Ytkjkmnaiddjjnaa
