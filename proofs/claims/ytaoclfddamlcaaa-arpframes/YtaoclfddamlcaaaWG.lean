/- arp.Parse: what is no body: walked. -/
import Derived.Test.YtaoclfddamlcaaaWF
namespace Go.Proofs.Ytaoclfddamlcaaa
open Go.RowKit
theorem az_cells : az.c = #[.int .i64 0, .int .u8 0, .int .u8 0, .int .u8 0, .int .u8 0, .int .u8 0, .int .u8 0, .int .u8 0, .int .u8 0, .int .u8 0, .int .u8 0, .int .u8 0, .int .u8 0, .int .u8 0, .int .u8 0, .int .u8 0, .int .u8 0, .int .u8 0, .int .u8 0, .int .u8 0, .int .u8 0] := rfl
set_option maxRecDepth 20000 in
set_option maxHeartbeats 1000000 in
theorem parse9_short (s : ByteArray) (h : s.size < 28) (w : World) : Calls Try.prog 10 #[.string s] w fun e w' => e = .returned (.tuple #[.agg az.c, .int .i64 2]) ∧ Below w.heap.size w w' := by
  have M : Mem w [(w.heap.size, 9, #[.string s]), (w.heap.size + 1, 31, az.c)] ((w.alloc (.cells #[.string s] 9)).alloc (.cells az.c 31)) :=
    ((Mem.init w).alloc _ rfl _ _).alloc _ (by simp) _ _
  have h28 : (s.size : Int) < 28 := by omega
  go_enter Try.func10, Try.ntmps10
  go_upto_region 1 with fail
  change Code.wp _ _ _ _ ((w.alloc (.cells #[.string s] 9)).alloc (.cells az.c 31))
  generalize (w.alloc (.cells #[.string s] 9)).alloc (.cells az.c 31) = W0 at M ⊢
  have c0 := (M.row 0 rfl).cell 0
  have r1 := M.row 1 rfl
  have M2 := M.store 1 rfl az.c
  have HM := Lib.hid M2
  clear M M2
  go_wp2_with (first
    | (refine wpList_store_row rfl 31 (.tmp 2) (.tmp 12) rfl (w.heap.size + 1) az.c rfl rfl 31 az.c r1 (a9_info az_fit) rfl (A9.one _) ?_))
  exact bodyPost_ret (v := .tuple #[.agg az.c, .int .i64 2]) (results_row_reg rfl _ _ (w.heap.size + 1) 31 az.c (0, 0) _ rfl (HM.out.row 1 rfl) Try.underlying31 rfl (a9_info az_fit) _ rfl) rfl ⟨rfl, HM.out.below⟩
set_option maxRecDepth 20000 in
set_option maxHeartbeats 1000000 in
theorem parse9_head (s : ByteArray) (h : 28 ≤ s.size) (hh : cut9 s 0 6 ≠ headL) (w : World) : Calls Try.prog 10 #[.string s] w fun e w' => e = .returned (.tuple #[.agg az.c, .int .i64 3]) ∧ Below w.heap.size w w' := by
  have hmf : ∀ (fn : Fn) (first cap : Array Value) (w : World), (Instr.makeFunc fn first cap).run Try.prog w = .ok (.func fn first cap) w := fun _ _ _ _ => rfl
  have M : Mem w [(w.heap.size, 9, #[.string s]), (w.heap.size + 1, 31, az.c)] ((w.alloc (.cells #[.string s] 9)).alloc (.cells az.c 31)) :=
    ((Mem.init w).alloc _ rfl _ _).alloc _ (by simp) _ _
  have h28 : ¬ (s.size : Int) < 28 := by omega
  have hq := fun W => head_any W
  have HQ := Lib.hid hq
  clear hq
  have hne : ((s.extract 0 (0 + 6)).toList == headL) = false := by
    rw [ByteArray.toList_eq, extract_list, beq_eq_false_iff_ne]
    exact hh
  go_enter Try.func10, Try.ntmps10
  go_upto_region 1 with fail
  change Code.wp _ _ _ _ ((w.alloc (.cells #[.string s] 9)).alloc (.cells az.c 31))
  generalize (w.alloc (.cells #[.string s] 9)).alloc (.cells az.c 31) = W0 at M ⊢
  have c0 := (M.row 0 rfl).cell 0
  go_upto_region 3 with fail
  clear c0
  replace M := M.alloc _ rfl 3 #[.int .i64 0]
  simp only [List.cons_append, List.nil_append] at M
  go_upto_region 5 with fail
  change Code.wp _ _ _ _ (W0.alloc (.cells #[.int .i64 0] 3))
  generalize W0.alloc (.cells #[.int .i64 0] 3) = W1 at M ⊢
  generalize W0.heap.size = g at M ⊢
  go_wp2_with fail
  refine (take_any s 0 6 (by omega) (by omega) (by omega) M 0 2 rfl rfl (by omega)).mono ?_
  rintro e w1 ⟨rfl, M1⟩
  simp only [List.set_cons_zero, List.set_cons_succ] at M1
  clear M
  generalize s.extract 0 (0 + 6) = E at hne ⊢
  go_wp2_with fail
  refine (HQ.out _).mono ?_
  rintro e w2 ⟨rfl, hb2⟩
  replace M1 := M1.step hb2
  clear hb2
  have r1 := M1.row 1 rfl
  have M2 := M1.store 1 rfl az.c
  simp only [List.set_cons_zero, List.set_cons_succ] at M2
  have HM := Lib.hid M2
  clear M1 M2
  go_wp2_with (first
    | (refine wpList_store_row rfl 31 (.tmp 2) (.tmp 18) rfl (w.heap.size + 1) az.c rfl rfl 31 az.c r1 (a9_info az_fit) rfl (A9.one _) ?_))
  exact bodyPost_ret (v := .tuple #[.agg az.c, .int .i64 3]) (results_row_reg rfl _ _ (w.heap.size + 1) 31 az.c (0, 0) _ rfl (HM.out.row 1 rfl) Try.underlying31 rfl (a9_info az_fit) _ rfl) rfl ⟨rfl, HM.out.below⟩
set_option maxRecDepth 20000 in
set_option maxHeartbeats 1000000 in
theorem parse9_op (s : ByteArray) (h : 28 ≤ s.size) (hh : cut9 s 0 6 = headL) (hr : rightO (wd s 6) = false) (w : World) : Calls Try.prog 10 #[.string s] w fun e w' => e = .returned (.tuple #[.agg az.c, .int .i64 3]) ∧ Below w.heap.size w w' := by
  have hmf : ∀ (fn : Fn) (first cap : Array Value) (w : World), (Instr.makeFunc fn first cap).run Try.prog w = .ok (.func fn first cap) w := fun _ _ _ _ => rfl
  have M : Mem w [(w.heap.size, 9, #[.string s]), (w.heap.size + 1, 31, az.c)] ((w.alloc (.cells #[.string s] 9)).alloc (.cells az.c 31)) :=
    ((Mem.init w).alloc _ rfl _ _).alloc _ (by simp) _ _
  have h28 : ¬ (s.size : Int) < 28 := by omega
  have hq := fun W => head_any W
  have HQ := Lib.hid hq
  clear hq
  have hne : ((s.extract 0 (0 + 6)).toList == headL) = true := by
    rw [ByteArray.toList_eq, extract_list, beq_iff_eq]
    exact hh
  have hnum := fun W => numberIn_any (s.extract 6 (6 + 2)) (by rw [ByteArray.size_extract]; omega) W
  rw [show (s.extract 6 (6 + 2)).size = 2 from by rw [ByteArray.size_extract]; omega, numP_two] at hnum
  have hop := fun W => rightOp_any (wd s 6) W
  rw [hr] at hop
  have HN := Lib.hid hnum
  have HO := Lib.hid hop
  clear hnum hop hr
  go_enter Try.func10, Try.ntmps10
  go_upto_region 1 with fail
  change Code.wp _ _ _ _ ((w.alloc (.cells #[.string s] 9)).alloc (.cells az.c 31))
  generalize (w.alloc (.cells #[.string s] 9)).alloc (.cells az.c 31) = W0 at M ⊢
  have c0 := (M.row 0 rfl).cell 0
  go_upto_region 3 with fail
  clear c0
  replace M := M.alloc _ rfl 3 #[.int .i64 0]
  simp only [List.cons_append, List.nil_append] at M
  go_upto_region 5 with fail
  change Code.wp _ _ _ _ (W0.alloc (.cells #[.int .i64 0] 3))
  generalize W0.alloc (.cells #[.int .i64 0] 3) = W1 at M ⊢
  generalize W0.heap.size = g at M ⊢
  go_wp2_with fail
  refine (take_any s 0 6 (by omega) (by omega) (by omega) M 0 2 rfl rfl (by omega)).mono ?_
  rintro e w1 ⟨rfl, M1⟩
  simp only [List.set_cons_zero, List.set_cons_succ] at M1
  clear M
  generalize s.extract 0 (0 + 6) = E at hne ⊢
  go_wp2_with fail
  refine (HQ.out _).mono ?_
  rintro e w2 ⟨rfl, hb2⟩
  replace M1 := M1.step hb2
  clear hb2
  go_wp2_with fail
  refine (take_any s 6 2 (by omega) (by omega) (by omega) M1 0 2 rfl rfl (by omega)).mono ?_
  rintro e w3 ⟨rfl, M3⟩
  simp only [List.set_cons_zero, List.set_cons_succ] at M3
  clear M1 hne
  generalize s.extract 6 (6 + 2) = F at HN ⊢
  go_wp2_with fail
  refine (HN.out _).mono ?_
  rintro e w4 ⟨rfl, rfl⟩
  generalize wd s 6 = K at HO ⊢
  have r1 := M3.row 1 rfl
  have M4 := M3.store 1 rfl az.c
  simp only [List.set_cons_zero, List.set_cons_succ] at M4
  have HM := Lib.hid M4
  clear M3 M4
  go_wp2_with (first
    | (refine wpList_store_row rfl 31 (.tmp 2) (.tmp 28) rfl (w.heap.size + 1) az.c rfl rfl 31 az.c r1 (a9_info az_fit) rfl (A9.one _) ?_)
    | (go_at_call 17; refine (HO.out _).mono ?_; rintro e w5 ⟨rfl, rfl⟩))
  exact bodyPost_ret (v := .tuple #[.agg az.c, .int .i64 3]) (results_row_reg rfl _ _ (w.heap.size + 1) 31 az.c (0, 0) _ rfl (HM.out.row 1 rfl) Try.underlying31 rfl (a9_info az_fit) _ rfl) rfl ⟨rfl, HM.out.below⟩
end Go.Proofs.Ytaoclfddamlcaaa
