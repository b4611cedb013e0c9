/- nd.Parse: walked, whatever the text. -/
import Derived.Test.YtkjkmnaiddjjnaaLH
import Derived.Test.YtkjkmnaiddjjnaaVH
namespace Go.Proofs.Ytkjkmnaiddjjnaa
open Go.RowKit
theorem catch10_thrown (p : Addr) (x n : Int) (older : List PanicEntry) (w : World) (hc : w.cell? p = some (.int .i64 x)) (hz : w.frozen? p = false) :
    CallsD Try.prog 21 #[.pointer (some p)] (.panicking ({ v := .iface 29 (.int .i64 n), recovered := false } :: older)) w fun e u' w' =>
      e = .returned (.tuple #[]) ∧ u' = .panicking ({ v := .iface 29 (.int .i64 n), recovered := true } :: older) ∧ w' = w.setCell p (.int .i64 n) := by
  refine callsD_of_wpS Try.func21 rfl fun c₀ cs hu => ?_
  apply wpS_seq
  apply wpS_region
  simp [wpOpsS, go_sem, recoverD, hu, Try.ntmps21, Exit.thenS]
  have hta : ∀ W, (Instr.typeAssert (.iface 29 (.int .i64 n)) 20 29 false).run Try.prog W = .ok (.int .i64 n) W := fun W => by
    simp [Instr.typeAssert, run_underlying Try.underlying29]
  refine wpS_of_wp ?_
  go_wp2
  cases c₀
  simp_all [bodyPostS, results, Try.results21]
theorem catch10_idle (p : Addr) (w : World) :
    CallsD Try.prog 21 #[.pointer (some p)] .returning w fun e u' w' => e = .returned (.tuple #[]) ∧ u' = .returning ∧ w' = w := by
  refine callsD_of_wpS Try.func21 rfl fun c₀ cs hu => ?_
  apply wpS_seq
  apply wpS_region
  simp [wpOpsS, go_sem, recoverD, hu, Try.ntmps21, Exit.thenS]
  apply wpS_seq
  apply wpS_region
  simp [wpOpsS, go_sem, Exit.thenS]
  refine wpS_cond (t := false) (by simp [Act.eval, Array.replicate]) ?_
  simp only [Bool.false_eq_true, if_false]
  refine wpS_of_wp (wp_skip ?_)
  cases c₀
  simp_all [bodyPostS, results, Try.results21]
set_option maxRecDepth 20000 in
set_option maxHeartbeats 1000000 in
theorem parse10_ok (s : ByteArray) (x : N10) (hx : x.Fit) (hp : ∀ W, Calls Try.prog 22 #[.string s] W fun e w' => Below W.heap.size W w' ∧ e = .returned (.agg x.c)) (w : World) :
    Calls Try.prog 11 #[.string s] w fun e w' => e = .returned (.tuple #[.agg x.c, .int .i64 0]) ∧ Below w.heap.size w w' := by
  have hmf : ∀ (fn : Fn) (first cap : Array Value) (w : World), (Instr.makeFunc fn first cap).run Try.prog w = .ok (.func fn first cap) w := fun _ _ _ _ => rfl
  have M : Mem w [(w.heap.size, 32, nz.c), (w.heap.size + 1, 29, #[.int .i64 0])] ((w.alloc (.cells nz.c 32)).alloc (.cells #[.int .i64 0] 29)) :=
    ((Mem.init w).alloc _ rfl _ _).alloc _ (by simp) _ _
  have HP := Lib.hid hp
  clear hp
  go_enter_defers Try.func11, Try.ntmps11
  go_upto_region 1 with fail
  change Code.wp _ _ _ _ ((w.alloc (.cells nz.c 32)).alloc (.cells #[.int .i64 0] 29))
  generalize (w.alloc (.cells nz.c 32)).alloc (.cells #[.int .i64 0] 29) = W0 at M ⊢
  go_wp2_with fail
  refine (HP.out _).mono ?_
  rintro e w1 ⟨hb1, rfl⟩
  replace M := M.step hb1
  clear hb1
  have r0 := M.row 0 rfl
  have M2 := M.store 0 rfl x.c
  simp only [List.set_cons_zero] at M2
  have c1 := (M2.row 1 rfl).cell 0
  have f1 := (M2.row 1 rfl).frozen 0
  have M3 := M2.setCell 1 rfl 0 (.int .i64 0)
  have HM := Lib.hid M3
  have HL := Lib.hid (loadErr ⟨w.heap.size + 1, 0, none⟩ 0 _ ((M3.row 1 rfl).cell 0))
  clear M M2 M3
  go_wp2_with (first
    | (refine wpList_store_row rfl 32 (.tmp 2) (.tmp 6) rfl w.heap.size x.c rfl rfl 32 nz.c r0 (n10_info hx) (by rw [N10.size nz_fit, N10.size hx]) (N10.one _) ?_))
  refine leaves_cons (f := 21) (args := #[.pointer (some ⟨w.heap.size + 1, 0, none⟩)]) (by simp) (by simp [go_sem]) ?_
  refine (catch10_idle ⟨w.heap.size + 1, 0, none⟩ _).mono ?_
  rintro e u' w2 ⟨rfl, rfl, rfl⟩
  exact ⟨_, results_row_cell rfl _ _ w.heap.size 32 x.c (0, 0) _ rfl (HM.out.row 0 rfl) Try.underlying32 rfl (n10_info hx) ⟨w.heap.size + 1, 0, none⟩ _ rfl HL.out, rfl, HM.out.below⟩
set_option maxRecDepth 20000 in
set_option maxHeartbeats 1000000 in
theorem parse10_no (s : ByteArray) (n : Int) (hp : ∀ W, Calls Try.prog 22 #[.string s] W fun e w' => Below W.heap.size W w' ∧ e = thrown n) (w : World) :
    Calls Try.prog 11 #[.string s] w fun e w' => e = .returned (.tuple #[.agg nz.c, .int .i64 n]) ∧ Below w.heap.size w w' := by
  have hmf : ∀ (fn : Fn) (first cap : Array Value) (w : World), (Instr.makeFunc fn first cap).run Try.prog w = .ok (.func fn first cap) w := fun _ _ _ _ => rfl
  have M : Mem w [(w.heap.size, 32, nz.c), (w.heap.size + 1, 29, #[.int .i64 0])] ((w.alloc (.cells nz.c 32)).alloc (.cells #[.int .i64 0] 29)) :=
    ((Mem.init w).alloc _ rfl _ _).alloc _ (by simp) _ _
  have HP := Lib.hid hp
  clear hp
  go_enter_defers Try.func11, Try.ntmps11
  go_upto_region 1 with fail
  change Code.wp _ _ _ _ ((w.alloc (.cells nz.c 32)).alloc (.cells #[.int .i64 0] 29))
  generalize (w.alloc (.cells nz.c 32)).alloc (.cells #[.int .i64 0] 29) = W0 at M ⊢
  go_wp2_with fail
  refine (HP.out _).mono ?_
  rintro e w1 ⟨hb1, rfl⟩
  replace M := M.step hb1
  clear hb1
  have c1 := (M.row 1 rfl).cell 0
  have f1 := (M.row 1 rfl).frozen 0
  have M3 := M.setCell 1 rfl 0 (.int .i64 n)
  have HM := Lib.hid M3
  have HL := Lib.hid (loadErr ⟨w.heap.size + 1, 0, none⟩ n _ ((M3.row 1 rfl).cell 0))
  clear M M3
  go_wp2_with fail
  refine leaves_cons (f := 21) (args := #[.pointer (some ⟨w.heap.size + 1, 0, none⟩)]) (by simp) (by simp [go_sem]) ?_
  refine (catch10_thrown ⟨w.heap.size + 1, 0, none⟩ 0 n [] _ c1 f1).mono ?_
  rintro e u' w2 ⟨rfl, rfl, rfl⟩
  exact ⟨_, results_row_cell rfl _ _ w.heap.size 32 nz.c (0, 0) _ rfl (HM.out.row 0 rfl) Try.underlying32 rfl (n10_info nz_fit) ⟨w.heap.size + 1, 0, none⟩ _ rfl HL.out, rfl, HM.out.below⟩
/-- Parse, whatever the text -/
theorem parse10_any (s : ByteArray) (w : World) : Calls Try.prog 11 #[.string s] w fun e w' => e = .returned (.tuple #[.agg (parse10 s).2.c, .int .i64 (parse10 s).1]) ∧ Below w.heap.size w w' := by
  unfold parse10
  by_cases h : s.size < 64
  · rw [if_pos h]
    exact parse10_no s 2 (fun W => parsed10_short s h W) w
  · rw [if_neg h]
    cases hh : headOk (s.extract 0 40) && sizeOk (wd s 4) with
    | false => exact parse10_no s 3 (fun W => parsed10_head s (by omega) hh W) w
    | true =>
      simp only [if_true]
      by_cases hn : s.size < 40 + wd s 4
      · rw [if_pos hn]
        exact parse10_no s 2 (fun W => parsed10_cut s (by omega) hh hn W) w
      · rw [if_neg hn]
        cases hm : msgOk (s.extract 40 (40 + wd s 4)) with
        | false => exact parse10_no s 3 (fun W => parsed10_msg s (by omega) hh (by omega) hm W) w
        | true =>
          simp only [if_true]
          cases hs : sumOk s (s.extract 40 (40 + wd s 4)) with
          | false => exact parse10_no s 4 (fun W => parsed10_sum s (by omega) hh (by omega) hm hs W) w
          | true =>
            have hsz := sizeOk_spec (by simp only [Bool.and_eq_true] at hh; exact hh.2)
            exact parse10_ok s _ (saysOf_fit s _ (by omega) (by rw [ByteArray.size_extract]; omega)) (fun W => parsed10_ok s (by omega) hh (by omega) hm hs W) w
end Go.Proofs.Ytkjkmnaiddjjnaa
