/- bpdu.Parse: walked, whatever the text. -/
import Derived.Test.YtingcoojhfadgaaZE
namespace Go.Proofs.Ytingcoojhfadgaa
open Go.RowKit
/-- what three results read as, the first of which lies in a row -/
theorem results_row_reg2 {P : Program} {fn : Func} {p u v : Tmp} {ty : TypeId} (h : fn.results = #[.cell p ty, .tmp u, .tmp v]) (tmps : Array Value) (w : World) (g : Nat) (t : TypeId) (cs : Array Value) (fr : Nat × Nat) (d : TypeDesc)
    (hp : tmps.getD p undef = .pointer (some ⟨g, 0, none⟩)) (hg : w.heap[g]? = some (.cells cs t fr))
    (hu : P.underlying ty = some d) (hd : (match d with | .struct _ | .array _ _ => true | _ => false) = true) (hi : (P.info? ty).map (·.size) = some cs.size)
    (x y : Value) (hx : tmps.getD u undef = x) (hy : tmps.getD v undef = y) :
    (results fn tmps).run P w = .ok (.tuple #[.agg cs, x, y]) w := by
  have hp' : tmps[p]?.getD undef = .pointer (some ⟨g, 0, none⟩) := by simpa using hp
  have hx' : tmps[u]?.getD undef = x := by simpa using hx
  have hy' : tmps[v]?.getD undef = y := by simpa using hy
  simp [results, h, hp', hx', hy', asAddr, run_loadVar_row w g t ty cs fr d hg hu hd hi]
theorem exec_neqS {P : Program} {o : Oper} {ev : Operand → Value} {w : World} (p q : Operand) (a b : ByteArray) (r : Bool) (hr : (a.data.toList == b.data.toList) = r) (ho : o.op = .binOp .neq 9 p q 9) (hp : ev p = .string a) (hq : ev q = .string b) : (execOp ev o).run P w = .ok (.value (.bool (!r))) w := by
  rw [← ByteArray.toList_eq, ← ByteArray.toList_eq] at hr
  unfold execOp
  simp only [ho, hp, hq]
  go_simp
theorem cut0 (s : ByteArray) (n : Nat) : (s.extract 0 n).data.toList = cut9 s 0 n := by
  unfold cut9
  rw [extract_list, Nat.sub_zero]
set_option maxRecDepth 20000 in
set_option maxHeartbeats 1000000 in
theorem parse11_short (s : ByteArray) (h : s.size < 7) (w : World) : Calls Try.prog 9 #[.string s] w fun e w' => e = .returned (.tuple #[.agg bz.c, .bool false, .int .i64 2]) ∧ Below w.heap.size w w' := by
  have M : Mem w [(w.heap.size, 28, bz.c)] (w.alloc (.cells bz.c 28)) := (Mem.init w).alloc _ rfl _ _
  have h7 : (s.size : Int) < 7 := by omega
  go_enter Try.func9, Try.ntmps9
  go_upto_region 1 with fail
  change Code.wp _ _ _ _ (w.alloc (.cells bz.c 28))
  generalize w.alloc (.cells bz.c 28) = W0 at M ⊢
  have r1 := M.row 0 rfl
  have HM := Lib.hid (M.store 0 rfl bz.c)
  clear M
  go_wp2_with (first
    | (refine wpExec rfl (.agg bz.c) (build11z rfl) ?_)
    | (refine wpList_store_row rfl 28 (.tmp 2) (.tmp 11) rfl w.heap.size bz.c rfl rfl 28 bz.c r1 (b11_info bz_fit) rfl (B11.one _) ?_))
  exact bodyPost_ret (v := .tuple #[.agg bz.c, .bool false, .int .i64 2]) (results_row_reg2 rfl _ _ w.heap.size 28 bz.c (0, 0) _ rfl (HM.out.row 0 rfl) Try.underlying28 rfl (b11_info bz_fit) _ _ rfl rfl) rfl ⟨rfl, HM.out.below⟩
set_option maxRecDepth 20000 in
set_option maxHeartbeats 1000000 in
theorem parse11_told (s : ByteArray) (h : 7 ≤ s.size) (hn : cut9 s 0 7 = noticeL) (w : World) : Calls Try.prog 9 #[.string s] w fun e w' => e = .returned (.tuple #[.agg bz.c, .bool true, .int .i64 0]) ∧ Below w.heap.size w w' := by
  have M : Mem w [(w.heap.size, 28, bz.c)] (w.alloc (.cells bz.c 28)) := (Mem.init w).alloc _ rfl _ _
  have h7 : ¬ (s.size : Int) < 7 := by omega
  have h72 : (7 : Int) ≤ (s.size : Int) := by omega
  have he1 : ((s.extract 0 7).data.toList == (⟨noticeL.toArray⟩ : ByteArray).data.toList) = true := by
    rw [cut0, str_list]
    simpa using hn
  have HE1 := Lib.hid he1
  clear he1 hn
  go_enter Try.func9, Try.ntmps9
  go_upto_region 1 with fail
  change Code.wp _ _ _ _ (w.alloc (.cells bz.c 28))
  generalize w.alloc (.cells bz.c 28) = W0 at M ⊢
  have r1 := M.row 0 rfl
  have HM := Lib.hid (M.store 0 rfl bz.c)
  clear M
  go_wp2_with (first
    | (refine wpExec rfl (.bool true) (exec_eqS (.tmp 14) (.const (.string ⟨noticeL.toArray⟩)) _ _ true HE1.out rfl rfl rfl) ?_)
    | (refine wpExec rfl (.agg bz.c) (build11z rfl) ?_)
    | (refine wpList_store_row rfl 28 (.tmp 2) (.tmp 16) rfl w.heap.size bz.c rfl rfl 28 bz.c r1 (b11_info bz_fit) rfl (B11.one _) ?_))
  exact bodyPost_ret (v := .tuple #[.agg bz.c, .bool true, .int .i64 0]) (results_row_reg2 rfl _ _ w.heap.size 28 bz.c (0, 0) _ rfl (HM.out.row 0 rfl) Try.underlying28 rfl (b11_info bz_fit) _ _ rfl rfl) rfl ⟨rfl, HM.out.below⟩
set_option maxRecDepth 20000 in
set_option maxHeartbeats 1000000 in
theorem parse11_form (s : ByteArray) (h : 7 ≤ s.size) (hn : cut9 s 0 7 ≠ noticeL) (hw : cut9 s 0 7 ≠ wordL) (w : World) : Calls Try.prog 9 #[.string s] w fun e w' => e = .returned (.tuple #[.agg bz.c, .bool false, .int .i64 3]) ∧ Below w.heap.size w w' := by
  have M : Mem w [(w.heap.size, 28, bz.c)] (w.alloc (.cells bz.c 28)) := (Mem.init w).alloc _ rfl _ _
  have h7 : ¬ (s.size : Int) < 7 := by omega
  have h72 : (7 : Int) ≤ (s.size : Int) := by omega
  have he1 : ((s.extract 0 7).data.toList == (⟨noticeL.toArray⟩ : ByteArray).data.toList) = false := by
    rw [cut0, str_list]
    simpa using hn
  have he2 : ((s.extract 0 7).data.toList == (⟨wordL.toArray⟩ : ByteArray).data.toList) = false := by
    rw [cut0, str_list]
    simpa using hw
  have HE1 := Lib.hid he1
  clear he1 hn
  have HE2 := Lib.hid he2
  clear he2 hw
  go_enter Try.func9, Try.ntmps9
  go_upto_region 1 with fail
  change Code.wp _ _ _ _ (w.alloc (.cells bz.c 28))
  generalize w.alloc (.cells bz.c 28) = W0 at M ⊢
  have r1 := M.row 0 rfl
  have HM := Lib.hid (M.store 0 rfl bz.c)
  clear M
  go_wp2_with (first
    | (refine wpExec rfl (.bool false) (exec_eqS (.tmp 14) (.const (.string ⟨noticeL.toArray⟩)) _ _ false HE1.out rfl rfl rfl) ?_)
    | (refine wpExec rfl (.bool (!false)) (exec_neqS (.tmp 17) (.const (.string ⟨wordL.toArray⟩)) _ _ false HE2.out rfl rfl rfl) ?_)
    | (refine wpExec rfl (.agg bz.c) (build11z rfl) ?_)
    | (refine wpList_store_row rfl 28 (.tmp 2) (.tmp 19) rfl w.heap.size bz.c rfl rfl 28 bz.c r1 (b11_info bz_fit) rfl (B11.one _) ?_))
  exact bodyPost_ret (v := .tuple #[.agg bz.c, .bool false, .int .i64 3]) (results_row_reg2 rfl _ _ w.heap.size 28 bz.c (0, 0) _ rfl (HM.out.row 0 rfl) Try.underlying28 rfl (b11_info bz_fit) _ _ rfl rfl) rfl ⟨rfl, HM.out.below⟩
set_option maxRecDepth 20000 in
set_option maxHeartbeats 1000000 in
theorem parse11_cut (s : ByteArray) (h : 7 ≤ s.size) (hn : cut9 s 0 7 ≠ noticeL) (hw : cut9 s 0 7 = wordL) (h38 : s.size < 38) (w : World) : Calls Try.prog 9 #[.string s] w fun e w' => e = .returned (.tuple #[.agg bz.c, .bool false, .int .i64 2]) ∧ Below w.heap.size w w' := by
  have M : Mem w [(w.heap.size, 28, bz.c)] (w.alloc (.cells bz.c 28)) := (Mem.init w).alloc _ rfl _ _
  have h7 : ¬ (s.size : Int) < 7 := by omega
  have h72 : (7 : Int) ≤ (s.size : Int) := by omega
  have he1 : ((s.extract 0 7).data.toList == (⟨noticeL.toArray⟩ : ByteArray).data.toList) = false := by
    rw [cut0, str_list]
    simpa using hn
  have he2 : ((s.extract 0 7).data.toList == (⟨wordL.toArray⟩ : ByteArray).data.toList) = true := by
    rw [cut0, str_list]
    simpa using hw
  have HE1 := Lib.hid he1
  clear he1 hn
  have HE2 := Lib.hid he2
  clear he2 hw
  have h8 : (s.size : Int) < 38 := by omega
  go_enter Try.func9, Try.ntmps9
  go_upto_region 1 with fail
  change Code.wp _ _ _ _ (w.alloc (.cells bz.c 28))
  generalize w.alloc (.cells bz.c 28) = W0 at M ⊢
  have r1 := M.row 0 rfl
  have HM := Lib.hid (M.store 0 rfl bz.c)
  clear M
  go_wp2_with (first
    | (refine wpExec rfl (.bool false) (exec_eqS (.tmp 14) (.const (.string ⟨noticeL.toArray⟩)) _ _ false HE1.out rfl rfl rfl) ?_)
    | (refine wpExec rfl (.bool (!true)) (exec_neqS (.tmp 17) (.const (.string ⟨wordL.toArray⟩)) _ _ true HE2.out rfl rfl rfl) ?_)
    | (refine wpExec rfl (.agg bz.c) (build11z rfl) ?_)
    | (refine wpList_store_row rfl 28 (.tmp 2) (.tmp 23) rfl w.heap.size bz.c rfl rfl 28 bz.c r1 (b11_info bz_fit) rfl (B11.one _) ?_))
  exact bodyPost_ret (v := .tuple #[.agg bz.c, .bool false, .int .i64 2]) (results_row_reg2 rfl _ _ w.heap.size 28 bz.c (0, 0) _ rfl (HM.out.row 0 rfl) Try.underlying28 rfl (b11_info bz_fit) _ _ rfl rfl) rfl ⟨rfl, HM.out.below⟩
set_option maxRecDepth 20000 in
set_option maxHeartbeats 1000000 in
theorem parse11_no (s : ByteArray)  (hn : cut9 s 0 7 ≠ noticeL) (hw : cut9 s 0 7 = wordL) (h38 : 38 ≤ s.size) (hok : saysOk (s.extract 7 38) = false) (w : World) : Calls Try.prog 9 #[.string s] w fun e w' => e = .returned (.tuple #[.agg bz.c, .bool false, .int .i64 3]) ∧ Below w.heap.size w w' := by
  have M : Mem w [(w.heap.size, 28, bz.c)] (w.alloc (.cells bz.c 28)) := (Mem.init w).alloc _ rfl _ _
  have h7 : ¬ (s.size : Int) < 7 := by omega
  have h72 : (7 : Int) ≤ (s.size : Int) := by omega
  have he1 : ((s.extract 0 7).data.toList == (⟨noticeL.toArray⟩ : ByteArray).data.toList) = false := by
    rw [cut0, str_list]
    simpa using hn
  have he2 : ((s.extract 0 7).data.toList == (⟨wordL.toArray⟩ : ByteArray).data.toList) = true := by
    rw [cut0, str_list]
    simpa using hw
  have HE1 := Lib.hid he1
  clear he1 hn
  have HE2 := Lib.hid he2
  clear he2 hw
  have h8 : ¬ (s.size : Int) < 38 := by omega
  have h82 : (38 : Int) ≤ (s.size : Int) := by omega
  have hq := fun W => readWord_any (s.extract 7 38) (by rw [ByteArray.size_extract]; omega) W
  rw [hok] at hq
  have hX := says_fit (s.extract 7 38) (by rw [ByteArray.size_extract]; omega)
  generalize says (s.extract 7 38) = X at hq hX ⊢
  have RQ := Lib.hid hq
  clear hq hok
  go_enter Try.func9, Try.ntmps9
  go_upto_region 1 with fail
  change Code.wp _ _ _ _ (w.alloc (.cells bz.c 28))
  generalize w.alloc (.cells bz.c 28) = W0 at M ⊢
  go_upto_region 10 with (first
    | (refine wpExec rfl (.bool false) (exec_eqS (.tmp 14) (.const (.string ⟨noticeL.toArray⟩)) _ _ false HE1.out rfl rfl rfl) ?_)
    | (refine wpExec rfl (.bool (!true)) (exec_neqS (.tmp 17) (.const (.string ⟨wordL.toArray⟩)) _ _ true HE2.out rfl rfl rfl) ?_)
    | fail)
  have hq := RQ.out W0
  clear RQ
  go_wp2_with fail
  refine hq.mono ?_
  rintro e w1 ⟨rfl, hb1⟩
  replace M := M.step hb1
  clear hb1 hq
  replace M := M.alloc _ rfl 28 bz.c
  simp only [List.cons_append, List.nil_append] at M
  have r1 := M.row 1 rfl
  replace M := M.store 1 rfl X.c
  simp only [List.set_cons_zero, List.set_cons_succ] at M
  have r0 := M.row 0 rfl
  have r2 := M.row 1 rfl
  have HM := Lib.hid (M.store 0 rfl bz.c)
  clear M
  go_wp2_with (first
    | (refine wpExec rfl (.agg bz.c) (build11z rfl) ?_)
    | (refine wpExec rfl (.agg X.c) (exec_load_row 28 (.tmp 6) w1.heap.size r2 Try.underlying28 rfl (b11_info hX) rfl rfl) ?_)
    | (refine wpList_store_row rfl 28 (.tmp 6) (.tmp 28) rfl w1.heap.size X.c rfl rfl 28 bz.c r1 (b11_info hX) (by rw [B11.size hX]; rfl) (B11.one _) ?_)
    | (refine wpList_store_row rfl 28 (.tmp 2) (.tmp 32) rfl w.heap.size bz.c rfl rfl 28 bz.c r0 (b11_info bz_fit) rfl (B11.one _) ?_))
  exact bodyPost_ret (v := .tuple #[.agg bz.c, .bool false, .int .i64 3]) (results_row_reg2 rfl _ _ w.heap.size 28 bz.c (0, 0) _ rfl (HM.out.row 0 rfl) Try.underlying28 rfl (b11_info bz_fit) _ _ rfl rfl) rfl ⟨rfl, HM.out.below⟩
set_option maxRecDepth 20000 in
set_option maxHeartbeats 1000000 in
theorem parse11_yes (s : ByteArray)  (hn : cut9 s 0 7 ≠ noticeL) (hw : cut9 s 0 7 = wordL) (h38 : 38 ≤ s.size) (hok : saysOk (s.extract 7 38) = true) (w : World) : Calls Try.prog 9 #[.string s] w fun e w' => e = .returned (.tuple #[.agg (says (s.extract 7 38)).c, .bool false, .int .i64 0]) ∧ Below w.heap.size w w' := by
  have M : Mem w [(w.heap.size, 28, bz.c)] (w.alloc (.cells bz.c 28)) := (Mem.init w).alloc _ rfl _ _
  have h7 : ¬ (s.size : Int) < 7 := by omega
  have h72 : (7 : Int) ≤ (s.size : Int) := by omega
  have he1 : ((s.extract 0 7).data.toList == (⟨noticeL.toArray⟩ : ByteArray).data.toList) = false := by
    rw [cut0, str_list]
    simpa using hn
  have he2 : ((s.extract 0 7).data.toList == (⟨wordL.toArray⟩ : ByteArray).data.toList) = true := by
    rw [cut0, str_list]
    simpa using hw
  have HE1 := Lib.hid he1
  clear he1 hn
  have HE2 := Lib.hid he2
  clear he2 hw
  have h8 : ¬ (s.size : Int) < 38 := by omega
  have h82 : (38 : Int) ≤ (s.size : Int) := by omega
  have hq := fun W => readWord_any (s.extract 7 38) (by rw [ByteArray.size_extract]; omega) W
  rw [hok] at hq
  have hX := says_fit (s.extract 7 38) (by rw [ByteArray.size_extract]; omega)
  generalize says (s.extract 7 38) = X at hq hX ⊢
  have RQ := Lib.hid hq
  clear hq hok
  go_enter Try.func9, Try.ntmps9
  go_upto_region 1 with fail
  change Code.wp _ _ _ _ (w.alloc (.cells bz.c 28))
  generalize w.alloc (.cells bz.c 28) = W0 at M ⊢
  go_upto_region 10 with (first
    | (refine wpExec rfl (.bool false) (exec_eqS (.tmp 14) (.const (.string ⟨noticeL.toArray⟩)) _ _ false HE1.out rfl rfl rfl) ?_)
    | (refine wpExec rfl (.bool (!true)) (exec_neqS (.tmp 17) (.const (.string ⟨wordL.toArray⟩)) _ _ true HE2.out rfl rfl rfl) ?_)
    | fail)
  have hq := RQ.out W0
  clear RQ
  go_wp2_with fail
  refine hq.mono ?_
  rintro e w1 ⟨rfl, hb1⟩
  replace M := M.step hb1
  clear hb1 hq
  replace M := M.alloc _ rfl 28 bz.c
  simp only [List.cons_append, List.nil_append] at M
  have r1 := M.row 1 rfl
  replace M := M.store 1 rfl X.c
  simp only [List.set_cons_zero, List.set_cons_succ] at M
  have r0 := M.row 0 rfl
  have r2 := M.row 1 rfl
  have HM := Lib.hid (M.store 0 rfl X.c)
  clear M
  go_wp2_with (first
    | (refine wpExec rfl (.agg bz.c) (build11z rfl) ?_)
    | (refine wpExec rfl (.agg X.c) (exec_load_row 28 (.tmp 6) w1.heap.size r2 Try.underlying28 rfl (b11_info hX) rfl rfl) ?_)
    | (refine wpList_store_row rfl 28 (.tmp 6) (.tmp 28) rfl w1.heap.size X.c rfl rfl 28 bz.c r1 (b11_info hX) (by rw [B11.size hX]; rfl) (B11.one _) ?_)
    | (refine wpList_store_row rfl 28 (.tmp 2) (.tmp 33) rfl w.heap.size X.c rfl rfl 28 bz.c r0 (b11_info hX) (by rw [B11.size hX]; rfl) (B11.one _) ?_))
  exact bodyPost_ret (v := .tuple #[.agg X.c, .bool false, .int .i64 0]) (results_row_reg2 rfl _ _ w.heap.size 28 X.c (0, 0) _ rfl (HM.out.row 0 rfl) Try.underlying28 rfl (b11_info hX) _ _ rfl rfl) rfl ⟨rfl, HM.out.below⟩
/-- Parse, whatever the text -/
theorem parse11_any (s : ByteArray) (w : World) : Calls Try.prog 9 #[.string s] w fun e w' => e = .returned (.tuple #[.agg (parse11 s).2.2.c, .bool (parse11 s).2.1, .int .i64 (parse11 s).1]) ∧ Below w.heap.size w w' := by
  unfold parse11
  by_cases h : s.size < 7
  · rw [if_pos h]
    exact parse11_short s h w
  rw [if_neg h]
  by_cases hn : cut9 s 0 7 = noticeL
  · rw [if_pos hn]
    exact parse11_told s (by omega) hn w
  rw [if_neg hn]
  by_cases hw : cut9 s 0 7 ≠ wordL
  · rw [if_pos hw]
    exact parse11_form s (by omega) hn hw w
  rw [if_neg hw]
  have hw2 : cut9 s 0 7 = wordL := by simpa using hw
  by_cases h38 : s.size < 38
  · rw [if_pos h38]
    exact parse11_cut s (by omega) hn hw2 h38 w
  rw [if_neg h38]
  cases hok : saysOk (s.extract 7 38) with
  | true => exact parse11_yes s hn hw2 (by omega) hok w
  | false => exact parse11_no s hn hw2 (by omega) hok w
end Go.Proofs.Ytingcoojhfadgaa
