/- The document's Take where the texts stay as they were: walked. -/
import Derived.Test.YthpbhimmfmablaaTYA
namespace Go.Proofs.Ythpbhimmfmablaa
open Go.RowKit
theorem results_tmp4 {fn : Func} {t u v x : Tmp} (h : fn.results = #[.tmp t, .tmp u, .tmp v, .tmp x]) (tmps : Array Value) (P : Program) (w : World) :
    (results fn tmps).run P w = .ok (.tuple #[tmps.getD t undef, tmps.getD u undef, tmps.getD v undef, tmps.getD x undef]) w := by
  simp [results, h]
abbrev told4 (v : Value) (T : List UInt8) (q : Bool) (e : Int) : Ending := .returned (.tuple #[v, .string ⟨T.toArray⟩, .bool q, .int .i64 e])
set_option maxRecDepth 20000 in
set_option maxHeartbeats 1000000 in
theorem rTake_none (v : Value) (s : ByteArray) (h : s.size = 0) (w : World) : Calls Try.prog 16 #[v, .string s] w fun e w' => e = told4 v [] false 2 ∧ w' = w := by
  have t0 : ((s.size : Int) == 0) = true := by rw [beq_iff_eq]; omega
  go_enter Try.func16, Try.ntmps16
  go_wp2
  (try simp only [Exit.inBlock, Exit.then])
  refine bodyPost_ret (results_tmp4 rfl _ _ _) rfl ?_
  exact ⟨rfl, rfl⟩
set_option maxRecDepth 20000 in
set_option maxHeartbeats 1000000 in
theorem rTake_idle (v : Value) (s : ByteArray) (h : s.size = 1) (h0 : bAt s 0 = 0) (w : World) : Calls Try.prog 16 #[v, .string s] w fun e w' => e = told4 v [] false 0 ∧ w' = w := by
  have t0 : ((s.size : Int) == 0) = false := by rw [beq_eq_false_iff_ne]; omega
  have t1 : ¬ (1 : Int) < (s.size : Int) := by omega
  have hI := fun (o : Oper) (ev : Operand → Value) (W : World) (p r : Operand) => exec_index (o := o) (ev := ev) (w := W) p r s 0 (by omega)
  rw [h0] at hI
  have HI := Lib.hid hI
  clear hI h0 h
  go_enter Try.func16, Try.ntmps16
  go_wp2_with (first
    | (refine wpExec rfl (.int .u8 0) (HI.out _ _ _ (.tmp 21) (.const (.int .i64 0)) rfl rfl rfl) ?_)
    | (refine wpExec rfl (.int .u8 0) (HI.out _ _ _ (.tmp 29) (.const (.int .i64 0)) rfl rfl rfl) ?_)
    | fail)
  (try simp only [Exit.inBlock, Exit.then])
  refine bodyPost_ret (results_tmp4 rfl _ _ _) rfl ?_
  exact ⟨rfl, rfl⟩
set_option maxRecDepth 20000 in
set_option maxHeartbeats 1000000 in
theorem rTake_long (v : Value) (s : ByteArray) (h : 1 < s.size) (h0 : bAt s 0 = 0) (w : World) : Calls Try.prog 16 #[v, .string s] w fun e w' => e = told4 v [] false 3 ∧ w' = w := by
  have t0 : ((s.size : Int) == 0) = false := by rw [beq_eq_false_iff_ne]; omega
  have t1 : (1 : Int) < (s.size : Int) := by omega
  have hI := fun (o : Oper) (ev : Operand → Value) (W : World) (p r : Operand) => exec_index (o := o) (ev := ev) (w := W) p r s 0 (by omega)
  rw [h0] at hI
  have HI := Lib.hid hI
  clear hI h0 h
  go_enter Try.func16, Try.ntmps16
  go_wp2_with (first
    | (refine wpExec rfl (.int .u8 0) (HI.out _ _ _ (.tmp 21) (.const (.int .i64 0)) rfl rfl rfl) ?_)
    | (refine wpExec rfl (.int .u8 0) (HI.out _ _ _ (.tmp 29) (.const (.int .i64 0)) rfl rfl rfl) ?_)
    | fail)
  (try simp only [Exit.inBlock, Exit.then])
  refine bodyPost_ret (results_tmp4 rfl _ _ _) rfl ?_
  exact ⟨rfl, rfl⟩
set_option maxRecDepth 20000 in
set_option maxHeartbeats 1000000 in
theorem rTake_first (v : Value) (s : ByteArray) (h : 1 ≤ s.size) (h0 : bAt s 0 ≠ 0) (h1 : bAt s 0 ≠ 1) (w : World) : Calls Try.prog 16 #[v, .string s] w fun e w' => e = told4 v [] false 3 ∧ w' = w := by
  have t0 : ((s.size : Int) == 0) = false := by rw [beq_eq_false_iff_ne]; omega
  have hI := fun (o : Oper) (ev : Operand → Value) (W : World) (p r : Operand) => exec_index (o := o) (ev := ev) (w := W) p r s 0 (by omega)
  have n0 : (bAt s 0).toNat ≠ 0 := fun h => h0 (UInt8.toNat_inj.1 (by rw [h]; rfl))
  have n1 : (bAt s 0).toNat ≠ 1 := fun h => h1 (UInt8.toNat_inj.1 (by rw [h]; rfl))
  generalize (bAt s 0).toNat = b at *
  have t1 : ((b : Int) == 0) = false := by rw [beq_eq_false_iff_ne]; omega
  have t2 : ((b : Int) == 1) = false := by rw [beq_eq_false_iff_ne]; omega
  have HI := Lib.hid hI
  clear hI h0 h1 n0 n1 h
  go_enter Try.func16, Try.ntmps16
  go_wp2_with (first
    | (refine wpExec rfl (.int .u8 (b : Int)) (HI.out _ _ _ (.tmp 21) (.const (.int .i64 0)) rfl rfl rfl) ?_)
    | (refine wpExec rfl (.int .u8 (b : Int)) (HI.out _ _ _ (.tmp 29) (.const (.int .i64 0)) rfl rfl rfl) ?_)
    | fail)
  (try simp only [Exit.inBlock, Exit.then])
  refine bodyPost_ret (results_tmp4 rfl _ _ _) rfl ?_
  exact ⟨rfl, rfl⟩
set_option maxRecDepth 20000 in
set_option maxHeartbeats 1000000 in
theorem rTake_short (v : Value) (s : ByteArray) (h : 1 ≤ s.size) (h1 : bAt s 0 = 1) (h8 : s.size < 8) (w : World) : Calls Try.prog 16 #[v, .string s] w fun e w' => e = told4 v [] false 2 ∧ w' = w := by
  have t0 : ((s.size : Int) == 0) = false := by rw [beq_eq_false_iff_ne]; omega
  have hI := fun (o : Oper) (ev : Operand → Value) (W : World) (p r : Operand) => exec_index (o := o) (ev := ev) (w := W) p r s 0 (by omega)
  have t8 : (s.size : Int) < 8 := by omega
  rw [h1] at hI
  have HI := Lib.hid hI
  clear hI h1 h h8
  go_enter Try.func16, Try.ntmps16
  go_wp2_with (first
    | (refine wpExec rfl (.int .u8 1) (HI.out _ _ _ (.tmp 21) (.const (.int .i64 0)) rfl rfl rfl) ?_)
    | (refine wpExec rfl (.int .u8 1) (HI.out _ _ _ (.tmp 29) (.const (.int .i64 0)) rfl rfl rfl) ?_)
    | fail)
  (try simp only [Exit.inBlock, Exit.then])
  refine bodyPost_ret (results_tmp4 rfl _ _ _) rfl ?_
  exact ⟨rfl, rfl⟩
theorem numP_take (l : List UInt8) (k m : Nat) (h : k ≤ m) : numP (l.take m) k = numP l k := by
  induction k with
  | zero => rfl
  | succ k ih =>
    show numP (l.take m) k * 256 + ((l.take m).getD k 0).toNat = numP l k * 256 + (l.getD k 0).toNat
    rw [ih (by omega), List.getD_eq_getElem?_getD, List.getD_eq_getElem?_getD, List.getElem?_take_of_lt (by omega)]
theorem num_mid (s : ByteArray) (w : World) (h : 7 < s.size) : Calls Try.prog 27 #[.string (s.extract 1 5)] w fun e w' => e = .returned (.int .i64 (numP (s.data.toList.drop 1) 4 : Int)) ∧ w' = w := by
  have hz : (s.extract 1 5).size = 4 := by rw [ByteArray.size_extract]; omega
  have := refNumber_any (s.extract 1 5) (by omega) w
  rw [hz, show (s.extract 1 5).data.toList = (s.data.toList.drop 1).take 4 from by rw [ByteArray.data_extract, Array.toList_extract], numP_take _ _ _ (Nat.le_refl _)] at this
  exact this
set_option maxRecDepth 20000 in
set_option maxHeartbeats 1000000 in
theorem rTake_n1 (v : Value) (s : ByteArray) (h1 : bAt s 0 = 1) (h7 : 7 < s.size) (hq : (bAt s 6).toNat < 1 ∧ s.size - 7 = s.size - 7) (w : World) : Calls Try.prog 16 #[v, .string s] w fun e w' => e = told4 v [] false 3 ∧ Below w.heap.size w w' := by
  have t0 : ((s.size : Int) == 0) = false := by rw [beq_eq_false_iff_ne]; omega
  have t8 : ¬ (s.size : Int) < 8 := by omega
  have t7 : (7 : Int) ≤ (s.size : Int) := by omega
  have t5 : (5 : Int) ≤ (s.size : Int) := by omega
  have hI := fun (o : Oper) (ev : Operand → Value) (W : World) (p r : Operand) => exec_index (o := o) (ev := ev) (w := W) p r s 0 (by omega)
  have hI5 := fun (o : Oper) (ev : Operand → Value) (W : World) (p r : Operand) => exec_index (o := o) (ev := ev) (w := W) p r s 5 (by omega)
  have hI6 := fun (o : Oper) (ev : Operand → Value) (W : World) (p r : Operand) => exec_index (o := o) (ev := ev) (w := W) p r s 6 (by omega)
  rw [h1] at hI
  have hnm := fun W => num_mid s W h7
  have lnm := numP_lt (s.data.toList.drop 1) 4
  have l5 := UInt8.toNat_lt (bAt s 5)
  have l6 := UInt8.toNat_lt (bAt s 6)
  have hz7 : (s.extract 7 s.size).size = s.size - 7 := by rw [ByteArray.size_extract]; omega
  rw [← hz7] at hq
  generalize numP (s.data.toList.drop 1) 4 = N at *
  generalize (bAt s 5).toNat = p at *
  generalize (bAt s 6).toNat = c at *
  obtain ⟨X, hX⟩ : ∃ X, s.extract 7 s.size = X := ⟨_, rfl⟩
  rw [hX] at hq
  have hN : N < 4294967296 := lnm
  have hwN : IntKind.u32.wrap (N : Int) = (N : Int) := IntWalk.u32_in _ (by omega)
  have hw5 : IntKind.i64.wrap (p : Int) = (p : Int) := IntWalk.i64_in _ (by omega)
  have hw6 : IntKind.i64.wrap (c : Int) = (c : Int) := IntWalk.i64_in _ (by omega)
  have f1 : (c : Int) < 1 := by omega
  have HI := Lib.hid hI
  have HI5 := Lib.hid hI5
  have HI6 := Lib.hid hI6
  have HN := Lib.hid hnm
  clear hI hI5 hI6 hnm h1 h7 hz7 lnm
  go_enter Try.func16, Try.ntmps16
  go_upto_region 11 with (first
    | (refine wpExec rfl (.int .u8 1) (HI.out _ _ _ (.tmp 21) (.const (.int .i64 0)) rfl rfl rfl) ?_)
    | (refine wpExec rfl (.int .u8 1) (HI.out _ _ _ (.tmp 29) (.const (.int .i64 0)) rfl rfl rfl) ?_)
    | fail)
  go_wp2_with fail
  refine (HN.out _).mono ?_
  rintro e w1 ⟨rfl, rfl⟩
  go_upto_region 12 with fail
  refine wp_region_noPanic ?_
  refine wp_region_held_drew (S := fun w' => w' = w1.drew) (by kernel_rfl) rfl (fun hS => ?_)
  refine take1 hS 0 41 (.string s) _ rfl (by kernel_rfl) (by kernel_rfl) (by kernel_rfl) (fun _ _ _ h => h) rfl rfl (fun w' h => by go_simp) ?_
  simp only [Act.put, List.setIfInBounds_toArray, List.set_cons_zero, List.set_cons_succ]
  refine take1 hS 1 42 (.int .u8 (p : Int)) _ rfl (by kernel_rfl) (by kernel_rfl) (by kernel_rfl) (fun _ _ _ h => h) rfl rfl (fun w' h => by exact HI5.out _ _ _ _ _ rfl rfl rfl) ?_
  simp only [Act.put, List.setIfInBounds_toArray, List.set_cons_zero, List.set_cons_succ]
  refine take1 hS 2 43 (.int .i64 (p : Int)) _ rfl (by kernel_rfl) (by kernel_rfl) (by kernel_rfl) (fun _ _ _ h => h) rfl rfl (fun w' h => by go_simp) ?_
  simp only [Act.put, List.setIfInBounds_toArray, List.set_cons_zero, List.set_cons_succ]
  refine take1 hS 3 44 (.string s) _ rfl (by kernel_rfl) (by kernel_rfl) (by kernel_rfl) (fun _ _ _ h => h) rfl rfl (fun w' h => by go_simp) ?_
  simp only [Act.put, List.setIfInBounds_toArray, List.set_cons_zero, List.set_cons_succ]
  refine take1 hS 4 45 (.int .u8 (c : Int)) _ rfl (by kernel_rfl) (by kernel_rfl) (by kernel_rfl) (fun _ _ _ h => h) rfl rfl (fun w' h => by exact HI6.out _ _ _ _ _ rfl rfl rfl) ?_
  simp only [Act.put, List.setIfInBounds_toArray, List.set_cons_zero, List.set_cons_succ]
  refine take1 hS 5 46 (.int .i64 (c : Int)) _ rfl (by kernel_rfl) (by kernel_rfl) (by kernel_rfl) (fun _ _ _ h => h) rfl rfl (fun w' h => by go_simp) ?_
  simp only [Act.put, List.setIfInBounds_toArray, List.set_cons_zero, List.set_cons_succ]
  refine take1 hS 6 47 (.string s) _ rfl (by kernel_rfl) (by kernel_rfl) (by kernel_rfl) (fun _ _ _ h => h) rfl rfl (fun w' h => by go_simp) ?_
  simp only [Act.put, List.setIfInBounds_toArray, List.set_cons_zero, List.set_cons_succ]
  refine take1 hS 7 48 (.string X) _ rfl (by kernel_rfl) (by kernel_rfl) (by kernel_rfl) (fun _ _ _ h => h) rfl rfl (fun w' h => by rw [← hX]; go_simp) ?_
  simp only [Act.put, List.setIfInBounds_toArray, List.set_cons_zero, List.set_cons_succ]
  refine take1 hS 8 9 (.int .i64 (p : Int)) _ rfl (by kernel_rfl) (by kernel_rfl) (by kernel_rfl) (fun _ _ _ h => h) rfl rfl (fun w' h => by go_simp) ?_
  simp only [Act.put, List.setIfInBounds_toArray, List.set_cons_zero, List.set_cons_succ]
  refine take1 hS 9 10 (.int .i64 (c : Int)) _ rfl (by kernel_rfl) (by kernel_rfl) (by kernel_rfl) (fun _ _ _ h => h) rfl rfl (fun w' h => by go_simp) ?_
  simp only [Act.put, List.setIfInBounds_toArray, List.set_cons_zero, List.set_cons_succ]
  refine take1 hS 10 11 (.string X) _ rfl (by kernel_rfl) (by kernel_rfl) (by kernel_rfl) (fun _ _ _ h => h) rfl rfl (fun w' h => by go_simp) ?_
  simp only [Act.put, List.setIfInBounds_toArray, List.set_cons_zero, List.set_cons_succ]
  refine wpAnyH_done (by kernel_rfl) ?_ _
  refine NoPanic.normal ?_
  go_wp2
  (try simp only [Exit.inBlock, Exit.then])
  refine bodyPost_ret (results_tmp4 rfl _ _ _) rfl ?_
  exact ⟨rfl, (Below.refl _ _).drew⟩
set_option maxRecDepth 20000 in
set_option maxHeartbeats 1000000 in
theorem rTake_n2 (v : Value) (s : ByteArray) (h1 : bAt s 0 = 1) (h7 : 7 < s.size) (hq : 3 < (bAt s 6).toNat ∧ s.size - 7 = s.size - 7) (w : World) : Calls Try.prog 16 #[v, .string s] w fun e w' => e = told4 v [] false 3 ∧ Below w.heap.size w w' := by
  have t0 : ((s.size : Int) == 0) = false := by rw [beq_eq_false_iff_ne]; omega
  have t8 : ¬ (s.size : Int) < 8 := by omega
  have t7 : (7 : Int) ≤ (s.size : Int) := by omega
  have t5 : (5 : Int) ≤ (s.size : Int) := by omega
  have hI := fun (o : Oper) (ev : Operand → Value) (W : World) (p r : Operand) => exec_index (o := o) (ev := ev) (w := W) p r s 0 (by omega)
  have hI5 := fun (o : Oper) (ev : Operand → Value) (W : World) (p r : Operand) => exec_index (o := o) (ev := ev) (w := W) p r s 5 (by omega)
  have hI6 := fun (o : Oper) (ev : Operand → Value) (W : World) (p r : Operand) => exec_index (o := o) (ev := ev) (w := W) p r s 6 (by omega)
  rw [h1] at hI
  have hnm := fun W => num_mid s W h7
  have lnm := numP_lt (s.data.toList.drop 1) 4
  have l5 := UInt8.toNat_lt (bAt s 5)
  have l6 := UInt8.toNat_lt (bAt s 6)
  have hz7 : (s.extract 7 s.size).size = s.size - 7 := by rw [ByteArray.size_extract]; omega
  rw [← hz7] at hq
  generalize numP (s.data.toList.drop 1) 4 = N at *
  generalize (bAt s 5).toNat = p at *
  generalize (bAt s 6).toNat = c at *
  obtain ⟨X, hX⟩ : ∃ X, s.extract 7 s.size = X := ⟨_, rfl⟩
  rw [hX] at hq
  have hN : N < 4294967296 := lnm
  have hwN : IntKind.u32.wrap (N : Int) = (N : Int) := IntWalk.u32_in _ (by omega)
  have hw5 : IntKind.i64.wrap (p : Int) = (p : Int) := IntWalk.i64_in _ (by omega)
  have hw6 : IntKind.i64.wrap (c : Int) = (c : Int) := IntWalk.i64_in _ (by omega)
  have f1 : ¬ (c : Int) < 1 := by omega
  have f2 : (3 : Int) < (c : Int) := by omega
  have HI := Lib.hid hI
  have HI5 := Lib.hid hI5
  have HI6 := Lib.hid hI6
  have HN := Lib.hid hnm
  clear hI hI5 hI6 hnm h1 h7 hz7 lnm
  go_enter Try.func16, Try.ntmps16
  go_upto_region 11 with (first
    | (refine wpExec rfl (.int .u8 1) (HI.out _ _ _ (.tmp 21) (.const (.int .i64 0)) rfl rfl rfl) ?_)
    | (refine wpExec rfl (.int .u8 1) (HI.out _ _ _ (.tmp 29) (.const (.int .i64 0)) rfl rfl rfl) ?_)
    | fail)
  go_wp2_with fail
  refine (HN.out _).mono ?_
  rintro e w1 ⟨rfl, rfl⟩
  go_upto_region 12 with fail
  refine wp_region_noPanic ?_
  refine wp_region_held_drew (S := fun w' => w' = w1.drew) (by kernel_rfl) rfl (fun hS => ?_)
  refine take1 hS 0 41 (.string s) _ rfl (by kernel_rfl) (by kernel_rfl) (by kernel_rfl) (fun _ _ _ h => h) rfl rfl (fun w' h => by go_simp) ?_
  simp only [Act.put, List.setIfInBounds_toArray, List.set_cons_zero, List.set_cons_succ]
  refine take1 hS 1 42 (.int .u8 (p : Int)) _ rfl (by kernel_rfl) (by kernel_rfl) (by kernel_rfl) (fun _ _ _ h => h) rfl rfl (fun w' h => by exact HI5.out _ _ _ _ _ rfl rfl rfl) ?_
  simp only [Act.put, List.setIfInBounds_toArray, List.set_cons_zero, List.set_cons_succ]
  refine take1 hS 2 43 (.int .i64 (p : Int)) _ rfl (by kernel_rfl) (by kernel_rfl) (by kernel_rfl) (fun _ _ _ h => h) rfl rfl (fun w' h => by go_simp) ?_
  simp only [Act.put, List.setIfInBounds_toArray, List.set_cons_zero, List.set_cons_succ]
  refine take1 hS 3 44 (.string s) _ rfl (by kernel_rfl) (by kernel_rfl) (by kernel_rfl) (fun _ _ _ h => h) rfl rfl (fun w' h => by go_simp) ?_
  simp only [Act.put, List.setIfInBounds_toArray, List.set_cons_zero, List.set_cons_succ]
  refine take1 hS 4 45 (.int .u8 (c : Int)) _ rfl (by kernel_rfl) (by kernel_rfl) (by kernel_rfl) (fun _ _ _ h => h) rfl rfl (fun w' h => by exact HI6.out _ _ _ _ _ rfl rfl rfl) ?_
  simp only [Act.put, List.setIfInBounds_toArray, List.set_cons_zero, List.set_cons_succ]
  refine take1 hS 5 46 (.int .i64 (c : Int)) _ rfl (by kernel_rfl) (by kernel_rfl) (by kernel_rfl) (fun _ _ _ h => h) rfl rfl (fun w' h => by go_simp) ?_
  simp only [Act.put, List.setIfInBounds_toArray, List.set_cons_zero, List.set_cons_succ]
  refine take1 hS 6 47 (.string s) _ rfl (by kernel_rfl) (by kernel_rfl) (by kernel_rfl) (fun _ _ _ h => h) rfl rfl (fun w' h => by go_simp) ?_
  simp only [Act.put, List.setIfInBounds_toArray, List.set_cons_zero, List.set_cons_succ]
  refine take1 hS 7 48 (.string X) _ rfl (by kernel_rfl) (by kernel_rfl) (by kernel_rfl) (fun _ _ _ h => h) rfl rfl (fun w' h => by rw [← hX]; go_simp) ?_
  simp only [Act.put, List.setIfInBounds_toArray, List.set_cons_zero, List.set_cons_succ]
  refine take1 hS 8 9 (.int .i64 (p : Int)) _ rfl (by kernel_rfl) (by kernel_rfl) (by kernel_rfl) (fun _ _ _ h => h) rfl rfl (fun w' h => by go_simp) ?_
  simp only [Act.put, List.setIfInBounds_toArray, List.set_cons_zero, List.set_cons_succ]
  refine take1 hS 9 10 (.int .i64 (c : Int)) _ rfl (by kernel_rfl) (by kernel_rfl) (by kernel_rfl) (fun _ _ _ h => h) rfl rfl (fun w' h => by go_simp) ?_
  simp only [Act.put, List.setIfInBounds_toArray, List.set_cons_zero, List.set_cons_succ]
  refine take1 hS 10 11 (.string X) _ rfl (by kernel_rfl) (by kernel_rfl) (by kernel_rfl) (fun _ _ _ h => h) rfl rfl (fun w' h => by go_simp) ?_
  simp only [Act.put, List.setIfInBounds_toArray, List.set_cons_zero, List.set_cons_succ]
  refine wpAnyH_done (by kernel_rfl) ?_ _
  refine NoPanic.normal ?_
  go_wp2
  (try simp only [Exit.inBlock, Exit.then])
  refine bodyPost_ret (results_tmp4 rfl _ _ _) rfl ?_
  exact ⟨rfl, (Below.refl _ _).drew⟩
set_option maxRecDepth 20000 in
set_option maxHeartbeats 1000000 in
theorem rTake_n3 (v : Value) (s : ByteArray) (h1 : bAt s 0 = 1) (h7 : 7 < s.size) (hq : (1 ≤ (bAt s 6).toNat ∧ (bAt s 6).toNat ≤ 3 ∧ (bAt s 6).toNat ≤ (bAt s 5).toNat) ∧ s.size - 7 = s.size - 7) (w : World) : Calls Try.prog 16 #[v, .string s] w fun e w' => e = told4 v [] false 3 ∧ Below w.heap.size w w' := by
  have t0 : ((s.size : Int) == 0) = false := by rw [beq_eq_false_iff_ne]; omega
  have t8 : ¬ (s.size : Int) < 8 := by omega
  have t7 : (7 : Int) ≤ (s.size : Int) := by omega
  have t5 : (5 : Int) ≤ (s.size : Int) := by omega
  have hI := fun (o : Oper) (ev : Operand → Value) (W : World) (p r : Operand) => exec_index (o := o) (ev := ev) (w := W) p r s 0 (by omega)
  have hI5 := fun (o : Oper) (ev : Operand → Value) (W : World) (p r : Operand) => exec_index (o := o) (ev := ev) (w := W) p r s 5 (by omega)
  have hI6 := fun (o : Oper) (ev : Operand → Value) (W : World) (p r : Operand) => exec_index (o := o) (ev := ev) (w := W) p r s 6 (by omega)
  rw [h1] at hI
  have hnm := fun W => num_mid s W h7
  have lnm := numP_lt (s.data.toList.drop 1) 4
  have l5 := UInt8.toNat_lt (bAt s 5)
  have l6 := UInt8.toNat_lt (bAt s 6)
  have hz7 : (s.extract 7 s.size).size = s.size - 7 := by rw [ByteArray.size_extract]; omega
  rw [← hz7] at hq
  generalize numP (s.data.toList.drop 1) 4 = N at *
  generalize (bAt s 5).toNat = p at *
  generalize (bAt s 6).toNat = c at *
  obtain ⟨X, hX⟩ : ∃ X, s.extract 7 s.size = X := ⟨_, rfl⟩
  rw [hX] at hq
  have hN : N < 4294967296 := lnm
  have hwN : IntKind.u32.wrap (N : Int) = (N : Int) := IntWalk.u32_in _ (by omega)
  have hw5 : IntKind.i64.wrap (p : Int) = (p : Int) := IntWalk.i64_in _ (by omega)
  have hw6 : IntKind.i64.wrap (c : Int) = (c : Int) := IntWalk.i64_in _ (by omega)
  have f1 : ¬ (c : Int) < 1 := by omega
  have f2 : ¬ (3 : Int) < (c : Int) := by omega
  have f3 : (c : Int) ≤ (p : Int) := by omega
  have HI := Lib.hid hI
  have HI5 := Lib.hid hI5
  have HI6 := Lib.hid hI6
  have HN := Lib.hid hnm
  clear hI hI5 hI6 hnm h1 h7 hz7 lnm
  go_enter Try.func16, Try.ntmps16
  go_upto_region 11 with (first
    | (refine wpExec rfl (.int .u8 1) (HI.out _ _ _ (.tmp 21) (.const (.int .i64 0)) rfl rfl rfl) ?_)
    | (refine wpExec rfl (.int .u8 1) (HI.out _ _ _ (.tmp 29) (.const (.int .i64 0)) rfl rfl rfl) ?_)
    | fail)
  go_wp2_with fail
  refine (HN.out _).mono ?_
  rintro e w1 ⟨rfl, rfl⟩
  go_upto_region 12 with fail
  refine wp_region_noPanic ?_
  refine wp_region_held_drew (S := fun w' => w' = w1.drew) (by kernel_rfl) rfl (fun hS => ?_)
  refine take1 hS 0 41 (.string s) _ rfl (by kernel_rfl) (by kernel_rfl) (by kernel_rfl) (fun _ _ _ h => h) rfl rfl (fun w' h => by go_simp) ?_
  simp only [Act.put, List.setIfInBounds_toArray, List.set_cons_zero, List.set_cons_succ]
  refine take1 hS 1 42 (.int .u8 (p : Int)) _ rfl (by kernel_rfl) (by kernel_rfl) (by kernel_rfl) (fun _ _ _ h => h) rfl rfl (fun w' h => by exact HI5.out _ _ _ _ _ rfl rfl rfl) ?_
  simp only [Act.put, List.setIfInBounds_toArray, List.set_cons_zero, List.set_cons_succ]
  refine take1 hS 2 43 (.int .i64 (p : Int)) _ rfl (by kernel_rfl) (by kernel_rfl) (by kernel_rfl) (fun _ _ _ h => h) rfl rfl (fun w' h => by go_simp) ?_
  simp only [Act.put, List.setIfInBounds_toArray, List.set_cons_zero, List.set_cons_succ]
  refine take1 hS 3 44 (.string s) _ rfl (by kernel_rfl) (by kernel_rfl) (by kernel_rfl) (fun _ _ _ h => h) rfl rfl (fun w' h => by go_simp) ?_
  simp only [Act.put, List.setIfInBounds_toArray, List.set_cons_zero, List.set_cons_succ]
  refine take1 hS 4 45 (.int .u8 (c : Int)) _ rfl (by kernel_rfl) (by kernel_rfl) (by kernel_rfl) (fun _ _ _ h => h) rfl rfl (fun w' h => by exact HI6.out _ _ _ _ _ rfl rfl rfl) ?_
  simp only [Act.put, List.setIfInBounds_toArray, List.set_cons_zero, List.set_cons_succ]
  refine take1 hS 5 46 (.int .i64 (c : Int)) _ rfl (by kernel_rfl) (by kernel_rfl) (by kernel_rfl) (fun _ _ _ h => h) rfl rfl (fun w' h => by go_simp) ?_
  simp only [Act.put, List.setIfInBounds_toArray, List.set_cons_zero, List.set_cons_succ]
  refine take1 hS 6 47 (.string s) _ rfl (by kernel_rfl) (by kernel_rfl) (by kernel_rfl) (fun _ _ _ h => h) rfl rfl (fun w' h => by go_simp) ?_
  simp only [Act.put, List.setIfInBounds_toArray, List.set_cons_zero, List.set_cons_succ]
  refine take1 hS 7 48 (.string X) _ rfl (by kernel_rfl) (by kernel_rfl) (by kernel_rfl) (fun _ _ _ h => h) rfl rfl (fun w' h => by rw [← hX]; go_simp) ?_
  simp only [Act.put, List.setIfInBounds_toArray, List.set_cons_zero, List.set_cons_succ]
  refine take1 hS 8 9 (.int .i64 (p : Int)) _ rfl (by kernel_rfl) (by kernel_rfl) (by kernel_rfl) (fun _ _ _ h => h) rfl rfl (fun w' h => by go_simp) ?_
  simp only [Act.put, List.setIfInBounds_toArray, List.set_cons_zero, List.set_cons_succ]
  refine take1 hS 9 10 (.int .i64 (c : Int)) _ rfl (by kernel_rfl) (by kernel_rfl) (by kernel_rfl) (fun _ _ _ h => h) rfl rfl (fun w' h => by go_simp) ?_
  simp only [Act.put, List.setIfInBounds_toArray, List.set_cons_zero, List.set_cons_succ]
  refine take1 hS 10 11 (.string X) _ rfl (by kernel_rfl) (by kernel_rfl) (by kernel_rfl) (fun _ _ _ h => h) rfl rfl (fun w' h => by go_simp) ?_
  simp only [Act.put, List.setIfInBounds_toArray, List.set_cons_zero, List.set_cons_succ]
  refine wpAnyH_done (by kernel_rfl) ?_ _
  refine NoPanic.normal ?_
  go_wp2
  (try simp only [Exit.inBlock, Exit.then])
  refine bodyPost_ret (results_tmp4 rfl _ _ _) rfl ?_
  exact ⟨rfl, (Below.refl _ _).drew⟩
set_option maxRecDepth 20000 in
set_option maxHeartbeats 1000000 in
theorem rTake_n4 (v : Value) (s : ByteArray) (h1 : bAt s 0 = 1) (h7 : 7 < s.size) (hq : ((bAt s 6).toNat ≤ 3 ∧ (bAt s 5).toNat < (bAt s 6).toNat) ∧ 512 < s.size - 7) (w : World) : Calls Try.prog 16 #[v, .string s] w fun e w' => e = told4 v [] false 3 ∧ Below w.heap.size w w' := by
  have t0 : ((s.size : Int) == 0) = false := by rw [beq_eq_false_iff_ne]; omega
  have t8 : ¬ (s.size : Int) < 8 := by omega
  have t7 : (7 : Int) ≤ (s.size : Int) := by omega
  have t5 : (5 : Int) ≤ (s.size : Int) := by omega
  have hI := fun (o : Oper) (ev : Operand → Value) (W : World) (p r : Operand) => exec_index (o := o) (ev := ev) (w := W) p r s 0 (by omega)
  have hI5 := fun (o : Oper) (ev : Operand → Value) (W : World) (p r : Operand) => exec_index (o := o) (ev := ev) (w := W) p r s 5 (by omega)
  have hI6 := fun (o : Oper) (ev : Operand → Value) (W : World) (p r : Operand) => exec_index (o := o) (ev := ev) (w := W) p r s 6 (by omega)
  rw [h1] at hI
  have hnm := fun W => num_mid s W h7
  have lnm := numP_lt (s.data.toList.drop 1) 4
  have l5 := UInt8.toNat_lt (bAt s 5)
  have l6 := UInt8.toNat_lt (bAt s 6)
  have hz7 : (s.extract 7 s.size).size = s.size - 7 := by rw [ByteArray.size_extract]; omega
  rw [← hz7] at hq
  generalize numP (s.data.toList.drop 1) 4 = N at *
  generalize (bAt s 5).toNat = p at *
  generalize (bAt s 6).toNat = c at *
  obtain ⟨X, hX⟩ : ∃ X, s.extract 7 s.size = X := ⟨_, rfl⟩
  rw [hX] at hq
  have hN : N < 4294967296 := lnm
  have hwN : IntKind.u32.wrap (N : Int) = (N : Int) := IntWalk.u32_in _ (by omega)
  have hw5 : IntKind.i64.wrap (p : Int) = (p : Int) := IntWalk.i64_in _ (by omega)
  have hw6 : IntKind.i64.wrap (c : Int) = (c : Int) := IntWalk.i64_in _ (by omega)
  have f1 : ¬ (c : Int) < 1 := by omega
  have f2 : ¬ (3 : Int) < (c : Int) := by omega
  have f3 : ¬ (c : Int) ≤ (p : Int) := by omega
  have f4 : (512 : Int) < (X.size : Int) := by omega
  have HI := Lib.hid hI
  have HI5 := Lib.hid hI5
  have HI6 := Lib.hid hI6
  have HN := Lib.hid hnm
  clear hI hI5 hI6 hnm h1 h7 hz7 lnm
  go_enter Try.func16, Try.ntmps16
  go_upto_region 11 with (first
    | (refine wpExec rfl (.int .u8 1) (HI.out _ _ _ (.tmp 21) (.const (.int .i64 0)) rfl rfl rfl) ?_)
    | (refine wpExec rfl (.int .u8 1) (HI.out _ _ _ (.tmp 29) (.const (.int .i64 0)) rfl rfl rfl) ?_)
    | fail)
  go_wp2_with fail
  refine (HN.out _).mono ?_
  rintro e w1 ⟨rfl, rfl⟩
  go_upto_region 12 with fail
  refine wp_region_noPanic ?_
  refine wp_region_held_drew (S := fun w' => w' = w1.drew) (by kernel_rfl) rfl (fun hS => ?_)
  refine take1 hS 0 41 (.string s) _ rfl (by kernel_rfl) (by kernel_rfl) (by kernel_rfl) (fun _ _ _ h => h) rfl rfl (fun w' h => by go_simp) ?_
  simp only [Act.put, List.setIfInBounds_toArray, List.set_cons_zero, List.set_cons_succ]
  refine take1 hS 1 42 (.int .u8 (p : Int)) _ rfl (by kernel_rfl) (by kernel_rfl) (by kernel_rfl) (fun _ _ _ h => h) rfl rfl (fun w' h => by exact HI5.out _ _ _ _ _ rfl rfl rfl) ?_
  simp only [Act.put, List.setIfInBounds_toArray, List.set_cons_zero, List.set_cons_succ]
  refine take1 hS 2 43 (.int .i64 (p : Int)) _ rfl (by kernel_rfl) (by kernel_rfl) (by kernel_rfl) (fun _ _ _ h => h) rfl rfl (fun w' h => by go_simp) ?_
  simp only [Act.put, List.setIfInBounds_toArray, List.set_cons_zero, List.set_cons_succ]
  refine take1 hS 3 44 (.string s) _ rfl (by kernel_rfl) (by kernel_rfl) (by kernel_rfl) (fun _ _ _ h => h) rfl rfl (fun w' h => by go_simp) ?_
  simp only [Act.put, List.setIfInBounds_toArray, List.set_cons_zero, List.set_cons_succ]
  refine take1 hS 4 45 (.int .u8 (c : Int)) _ rfl (by kernel_rfl) (by kernel_rfl) (by kernel_rfl) (fun _ _ _ h => h) rfl rfl (fun w' h => by exact HI6.out _ _ _ _ _ rfl rfl rfl) ?_
  simp only [Act.put, List.setIfInBounds_toArray, List.set_cons_zero, List.set_cons_succ]
  refine take1 hS 5 46 (.int .i64 (c : Int)) _ rfl (by kernel_rfl) (by kernel_rfl) (by kernel_rfl) (fun _ _ _ h => h) rfl rfl (fun w' h => by go_simp) ?_
  simp only [Act.put, List.setIfInBounds_toArray, List.set_cons_zero, List.set_cons_succ]
  refine take1 hS 6 47 (.string s) _ rfl (by kernel_rfl) (by kernel_rfl) (by kernel_rfl) (fun _ _ _ h => h) rfl rfl (fun w' h => by go_simp) ?_
  simp only [Act.put, List.setIfInBounds_toArray, List.set_cons_zero, List.set_cons_succ]
  refine take1 hS 7 48 (.string X) _ rfl (by kernel_rfl) (by kernel_rfl) (by kernel_rfl) (fun _ _ _ h => h) rfl rfl (fun w' h => by rw [← hX]; go_simp) ?_
  simp only [Act.put, List.setIfInBounds_toArray, List.set_cons_zero, List.set_cons_succ]
  refine take1 hS 8 9 (.int .i64 (p : Int)) _ rfl (by kernel_rfl) (by kernel_rfl) (by kernel_rfl) (fun _ _ _ h => h) rfl rfl (fun w' h => by go_simp) ?_
  simp only [Act.put, List.setIfInBounds_toArray, List.set_cons_zero, List.set_cons_succ]
  refine take1 hS 9 10 (.int .i64 (c : Int)) _ rfl (by kernel_rfl) (by kernel_rfl) (by kernel_rfl) (fun _ _ _ h => h) rfl rfl (fun w' h => by go_simp) ?_
  simp only [Act.put, List.setIfInBounds_toArray, List.set_cons_zero, List.set_cons_succ]
  refine take1 hS 10 11 (.string X) _ rfl (by kernel_rfl) (by kernel_rfl) (by kernel_rfl) (fun _ _ _ h => h) rfl rfl (fun w' h => by go_simp) ?_
  simp only [Act.put, List.setIfInBounds_toArray, List.set_cons_zero, List.set_cons_succ]
  refine wpAnyH_done (by kernel_rfl) ?_ _
  refine NoPanic.normal ?_
  go_wp2
  (try simp only [Exit.inBlock, Exit.then])
  refine bodyPost_ret (results_tmp4 rfl _ _ _) rfl ?_
  exact ⟨rfl, (Below.refl _ _).drew⟩
set_option maxRecDepth 20000 in
set_option maxHeartbeats 1000000 in
theorem rTake_n5 (v : Value) (s : ByteArray) (h1 : bAt s 0 = 1) (h7 : 7 < s.size) (hq : ((bAt s 6).toNat ≤ 3 ∧ (bAt s 5).toNat + 1 < (bAt s 6).toNat) ∧ s.size - 7 < 512) (w : World) : Calls Try.prog 16 #[v, .string s] w fun e w' => e = told4 v [] false 3 ∧ Below w.heap.size w w' := by
  have t0 : ((s.size : Int) == 0) = false := by rw [beq_eq_false_iff_ne]; omega
  have t8 : ¬ (s.size : Int) < 8 := by omega
  have t7 : (7 : Int) ≤ (s.size : Int) := by omega
  have t5 : (5 : Int) ≤ (s.size : Int) := by omega
  have hI := fun (o : Oper) (ev : Operand → Value) (W : World) (p r : Operand) => exec_index (o := o) (ev := ev) (w := W) p r s 0 (by omega)
  have hI5 := fun (o : Oper) (ev : Operand → Value) (W : World) (p r : Operand) => exec_index (o := o) (ev := ev) (w := W) p r s 5 (by omega)
  have hI6 := fun (o : Oper) (ev : Operand → Value) (W : World) (p r : Operand) => exec_index (o := o) (ev := ev) (w := W) p r s 6 (by omega)
  rw [h1] at hI
  have hnm := fun W => num_mid s W h7
  have lnm := numP_lt (s.data.toList.drop 1) 4
  have l5 := UInt8.toNat_lt (bAt s 5)
  have l6 := UInt8.toNat_lt (bAt s 6)
  have hz7 : (s.extract 7 s.size).size = s.size - 7 := by rw [ByteArray.size_extract]; omega
  rw [← hz7] at hq
  generalize numP (s.data.toList.drop 1) 4 = N at *
  generalize (bAt s 5).toNat = p at *
  generalize (bAt s 6).toNat = c at *
  obtain ⟨X, hX⟩ : ∃ X, s.extract 7 s.size = X := ⟨_, rfl⟩
  rw [hX] at hq
  have hN : N < 4294967296 := lnm
  have hwN : IntKind.u32.wrap (N : Int) = (N : Int) := IntWalk.u32_in _ (by omega)
  have hw5 : IntKind.i64.wrap (p : Int) = (p : Int) := IntWalk.i64_in _ (by omega)
  have hw6 : IntKind.i64.wrap (c : Int) = (c : Int) := IntWalk.i64_in _ (by omega)
  have f1 : ¬ (c : Int) < 1 := by omega
  have f2 : ¬ (3 : Int) < (c : Int) := by omega
  have f3 : ¬ (c : Int) ≤ (p : Int) := by omega
  have f4 : ¬ (512 : Int) < (X.size : Int) := by omega
  have hwc : IntKind.i64.wrap ((c : Int) - 1) = (c : Int) - 1 := IntWalk.i64_in _ (by omega)
  have f5 : (p : Int) < (c : Int) - 1 := by omega
  have f6 : (X.size : Int) < 512 := by omega
  have HI := Lib.hid hI
  have HI5 := Lib.hid hI5
  have HI6 := Lib.hid hI6
  have HN := Lib.hid hnm
  clear hI hI5 hI6 hnm h1 h7 hz7 lnm
  go_enter Try.func16, Try.ntmps16
  go_upto_region 11 with (first
    | (refine wpExec rfl (.int .u8 1) (HI.out _ _ _ (.tmp 21) (.const (.int .i64 0)) rfl rfl rfl) ?_)
    | (refine wpExec rfl (.int .u8 1) (HI.out _ _ _ (.tmp 29) (.const (.int .i64 0)) rfl rfl rfl) ?_)
    | fail)
  go_wp2_with fail
  refine (HN.out _).mono ?_
  rintro e w1 ⟨rfl, rfl⟩
  go_upto_region 12 with fail
  refine wp_region_noPanic ?_
  refine wp_region_held_drew (S := fun w' => w' = w1.drew) (by kernel_rfl) rfl (fun hS => ?_)
  refine take1 hS 0 41 (.string s) _ rfl (by kernel_rfl) (by kernel_rfl) (by kernel_rfl) (fun _ _ _ h => h) rfl rfl (fun w' h => by go_simp) ?_
  simp only [Act.put, List.setIfInBounds_toArray, List.set_cons_zero, List.set_cons_succ]
  refine take1 hS 1 42 (.int .u8 (p : Int)) _ rfl (by kernel_rfl) (by kernel_rfl) (by kernel_rfl) (fun _ _ _ h => h) rfl rfl (fun w' h => by exact HI5.out _ _ _ _ _ rfl rfl rfl) ?_
  simp only [Act.put, List.setIfInBounds_toArray, List.set_cons_zero, List.set_cons_succ]
  refine take1 hS 2 43 (.int .i64 (p : Int)) _ rfl (by kernel_rfl) (by kernel_rfl) (by kernel_rfl) (fun _ _ _ h => h) rfl rfl (fun w' h => by go_simp) ?_
  simp only [Act.put, List.setIfInBounds_toArray, List.set_cons_zero, List.set_cons_succ]
  refine take1 hS 3 44 (.string s) _ rfl (by kernel_rfl) (by kernel_rfl) (by kernel_rfl) (fun _ _ _ h => h) rfl rfl (fun w' h => by go_simp) ?_
  simp only [Act.put, List.setIfInBounds_toArray, List.set_cons_zero, List.set_cons_succ]
  refine take1 hS 4 45 (.int .u8 (c : Int)) _ rfl (by kernel_rfl) (by kernel_rfl) (by kernel_rfl) (fun _ _ _ h => h) rfl rfl (fun w' h => by exact HI6.out _ _ _ _ _ rfl rfl rfl) ?_
  simp only [Act.put, List.setIfInBounds_toArray, List.set_cons_zero, List.set_cons_succ]
  refine take1 hS 5 46 (.int .i64 (c : Int)) _ rfl (by kernel_rfl) (by kernel_rfl) (by kernel_rfl) (fun _ _ _ h => h) rfl rfl (fun w' h => by go_simp) ?_
  simp only [Act.put, List.setIfInBounds_toArray, List.set_cons_zero, List.set_cons_succ]
  refine take1 hS 6 47 (.string s) _ rfl (by kernel_rfl) (by kernel_rfl) (by kernel_rfl) (fun _ _ _ h => h) rfl rfl (fun w' h => by go_simp) ?_
  simp only [Act.put, List.setIfInBounds_toArray, List.set_cons_zero, List.set_cons_succ]
  refine take1 hS 7 48 (.string X) _ rfl (by kernel_rfl) (by kernel_rfl) (by kernel_rfl) (fun _ _ _ h => h) rfl rfl (fun w' h => by rw [← hX]; go_simp) ?_
  simp only [Act.put, List.setIfInBounds_toArray, List.set_cons_zero, List.set_cons_succ]
  refine take1 hS 8 9 (.int .i64 (p : Int)) _ rfl (by kernel_rfl) (by kernel_rfl) (by kernel_rfl) (fun _ _ _ h => h) rfl rfl (fun w' h => by go_simp) ?_
  simp only [Act.put, List.setIfInBounds_toArray, List.set_cons_zero, List.set_cons_succ]
  refine take1 hS 9 10 (.int .i64 (c : Int)) _ rfl (by kernel_rfl) (by kernel_rfl) (by kernel_rfl) (fun _ _ _ h => h) rfl rfl (fun w' h => by go_simp) ?_
  simp only [Act.put, List.setIfInBounds_toArray, List.set_cons_zero, List.set_cons_succ]
  refine take1 hS 10 11 (.string X) _ rfl (by kernel_rfl) (by kernel_rfl) (by kernel_rfl) (fun _ _ _ h => h) rfl rfl (fun w' h => by go_simp) ?_
  simp only [Act.put, List.setIfInBounds_toArray, List.set_cons_zero, List.set_cons_succ]
  refine wpAnyH_done (by kernel_rfl) ?_ _
  refine NoPanic.normal ?_
  go_wp2
  (try simp only [Exit.inBlock, Exit.then])
  refine bodyPost_ret (results_tmp4 rfl _ _ _) rfl ?_
  exact ⟨rfl, (Below.refl _ _).drew⟩
/-- Take where nothing is taken -/
theorem rTake_bad (v : Value) (s : ByteArray) (S : List TS) (h : s.data.toList = [0] ∨ (readP s).1 ≠ 0) (w : World) : Calls Try.prog 16 #[v, .string s] w fun e w' => e = told4 v (takeS S s).2.1 (takeS S s).2.2.1 (takeS S s).2.2.2 ∧ (takeS S s).1 = S ∧ Below w.heap.size w w' := by
  have hl : s.data.toList.length = s.size := len_list s
  unfold takeS
  by_cases h0 : s.data.toList = [0]
  · rw [if_pos h0]
    have hz : s.size = 1 := by rw [← hl, h0]; rfl
    refine (rTake_idle v s hz (by show s.data.toList.getD 0 0 = 0; rw [h0]; rfl) w).mono ?_
    rintro e w' ⟨rfl, rfl⟩
    exact ⟨rfl, rfl, Below.refl _ _⟩
  · have h' : (readP s).1 ≠ 0 := h.resolve_left h0
    rw [if_neg h0, if_pos h']
    show Calls _ _ _ _ fun e w' => e = told4 v [] false (readP s).1 ∧ S = S ∧ _
    clear h
    unfold readP
    by_cases h1 : s.size < 1
    · rw [if_pos h1]
      refine (rTake_none v s (by omega) w).mono ?_
      rintro e w' ⟨rfl, rfl⟩
      exact ⟨rfl, rfl, Below.refl _ _⟩
    rw [if_neg h1]
    by_cases hb : bAt s 0 ≠ 1
    · rw [if_pos hb]
      by_cases hb0 : bAt s 0 = 0
      · have h2 : 1 < s.size := by
          by_cases hz : s.size = 1
          · exfalso
            apply h0
            have := bAt_cons' s (by omega)
            have h3 : (s.data.toList.drop 1).length = 0 := by rw [List.length_drop, hl, hz]
            rw [List.eq_nil_of_length_eq_zero h3, hb0] at this
            exact this
          · omega
        refine (rTake_long v s h2 hb0 w).mono ?_
        rintro e w' ⟨rfl, rfl⟩
        exact ⟨rfl, rfl, Below.refl _ _⟩
      · refine (rTake_first v s (by omega) hb0 hb w).mono ?_
        rintro e w' ⟨rfl, rfl⟩
        exact ⟨rfl, rfl, Below.refl _ _⟩
    rw [if_neg hb]
    have hb1 : bAt s 0 = 1 := Classical.not_not.1 hb
    by_cases h7 : s.size ≤ 7
    · rw [if_pos h7]
      refine (rTake_short v s (by omega) hb1 (by omega) w).mono ?_
      rintro e w' ⟨rfl, rfl⟩
      exact ⟨rfl, rfl, Below.refl _ _⟩
    rw [if_neg h7]
    by_cases hq : rightB (bAt s 6).toNat (bAt s 5).toNat (s.size - 7) = true
    · exfalso
      apply h'
      unfold readP
      rw [if_neg h1, if_neg hb, if_neg h7, if_pos hq]
    · rw [if_neg hq]
      have hq2 : ¬ ((bAt s 6).toNat ≤ 3 ∧ (bAt s 5).toNat < (bAt s 6).toNat ∧ (s.size - 7 = 512 ∨ (bAt s 5).toNat + 1 = (bAt s 6).toNat ∧ s.size - 7 < 512)) := by
        intro hh
        apply hq
        unfold rightB
        simp only [Bool.and_eq_true, Bool.or_eq_true, decide_eq_true_eq]
        exact hh
      have fin : ∀ e w', e = told4 v [] false 3 ∧ Below w.heap.size w w' → e = told4 v [] false 3 ∧ S = S ∧ Below w.heap.size w w' := fun e w' h => ⟨h.1, rfl, h.2⟩
      by_cases c1 : (bAt s 6).toNat < 1
      · exact (rTake_n1 v s hb1 (by omega) ⟨c1, rfl⟩ w).mono fin
      by_cases c2 : 3 < (bAt s 6).toNat
      · exact (rTake_n2 v s hb1 (by omega) ⟨c2, rfl⟩ w).mono fin
      by_cases c3 : (bAt s 6).toNat ≤ (bAt s 5).toNat
      · exact (rTake_n3 v s hb1 (by omega) ⟨⟨by omega, by omega, c3⟩, rfl⟩ w).mono fin
      by_cases c4 : 512 < s.size - 7
      · exact (rTake_n4 v s hb1 (by omega) ⟨⟨by omega, by omega⟩, c4⟩ w).mono fin
      · exact (rTake_n5 v s hb1 (by omega) ⟨⟨by omega, by omega⟩, by omega⟩ w).mono fin
end Go.Proofs.Ythpbhimmfmablaa
