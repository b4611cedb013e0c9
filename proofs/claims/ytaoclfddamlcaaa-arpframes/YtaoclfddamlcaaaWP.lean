/- arp.frame, Question, Answer: walked. -/
import Derived.Test.YtaoclfddamlcaaaWJ
namespace Go.Proofs.Ytaoclfddamlcaaa
open Go.RowKit
/-- a frame's cells -/
def fc (D S : List UInt8) (K : Int) (B : ByteArray) : Array Value := ((D ++ S).map B8 ++ [Value.int .i64 K, Value.string B]).toArray
theorem fc_size {D S : List UInt8} (hD : D.length = 6) (hS : S.length = 6) (K : Int) (B : ByteArray) : (fc D S K B).size = 14 := by
  unfold fc
  simp [hD, hS]
theorem fc_one (D S : List UInt8) (K : Int) (B : ByteArray) : (fc D S K B).all (·.oneCell') = true := by
  unfold fc
  simp [Value.oneCell']
theorem fc_info {D S : List UInt8} (hD : D.length = 6) (hS : S.length = 6) (K : Int) (B : ByteArray) : (Try.prog.info? 38).map (·.size) = some (fc D S K B).size := by rw [fc_size hD hS]; kernel_rfl
abbrev fz : Array Value := fc o6 o6 0 ⟨#[]⟩
theorem mac_info {l : List UInt8} (h : l.length = 6) : (Try.prog.info? 23).map (·.size) = some (bs l).size := by rw [bs_size, h]; kernel_rfl
theorem ip_info {l : List UInt8} (h : l.length = 4) : (Try.prog.info? 24).map (·.size) = some (bs l).size := by rw [bs_size, h]; kernel_rfl
section
variable {o : Oper} {ev : Operand → Value} {w : World} {g : Nat} {t : TypeId} {D S : List UInt8} {K : Int} {B : ByteArray}
theorem exec_fd (h : Has w g t (fc D S K B)) (hD : D.length = 6) (p : Operand) (ho : o.op = .load 23 p) (he : ev p = .pointer (some ⟨g, 0, none⟩)) : (execOp ev o).run Try.prog w = .ok (.value (.agg (bs D))) w :=
  exec_load_part 23 p g 0 (D.map B8) h (by
    show (((D ++ S).map B8 ++ _).drop 0).take _ = _
    rw [List.drop_zero, List.map_append, List.append_assoc, List.take_left]) Try.underlying23 rfl (bl_get D 6 hD 23 (by kernel_rfl)) ho he
theorem exec_fs (h : Has w g t (fc D S K B)) (hD : D.length = 6) (hS : S.length = 6) (p : Operand) (ho : o.op = .load 23 p) (he : ev p = .pointer (some ⟨g, 6, none⟩)) : (execOp ev o).run Try.prog w = .ok (.value (.agg (bs S))) w :=
  exec_load_part 23 p g 6 (S.map B8) h (by
    have hl : (D.map B8).length = 6 := by simp [hD]
    show (((D ++ S).map B8 ++ _).drop 6).take _ = _
    rw [List.map_append, List.append_assoc, ← hl, List.drop_left, List.take_left]) Try.underlying23 rfl (bl_get S 6 hS 23 (by kernel_rfl)) ho he
theorem Has.ft (h : Has w g t (fc D S K B)) (hD : D.length = 6) (hS : S.length = 6) : w.cell? ⟨g, 12, none⟩ = some (.int .i64 K) := by
  have hl : ((D ++ S).map B8).length = 12 := by simp [hD, hS]
  rw [h.cell]
  unfold fc
  rw [List.getElem?_toArray, List.getElem?_append_right (by omega), hl]; rfl
theorem Has.fy (h : Has w g t (fc D S K B)) (hD : D.length = 6) (hS : S.length = 6) : w.cell? ⟨g, 13, none⟩ = some (.string B) := by
  have hl : ((D ++ S).map B8).length = 12 := by simp [hD, hS]
  rw [h.cell]
  unfold fc
  rw [List.getElem?_toArray, List.getElem?_append_right (by omega), hl]; rfl
set_option maxHeartbeats 1000000 in
theorem buildF (hD : D.length = 6) (hS : S.length = 6) (a0 a1 a2 a3 : Operand) (ho : o.op = .build 38 #[(0, a0), (1, a1), (2, a2), (3, a3)]) (h0 : ev a0 = .agg (bs D)) (h1 : ev a1 = .agg (bs S)) (h2 : ev a2 = .int .i64 K) (h3 : ev a3 = .string B) :
    (execOp ev o).run Try.prog w = .ok (.value (.agg (fc D S K B))) w := by
  obtain ⟨d0, d1, d2, d3, d4, d5, rfl⟩ := six_of hD
  obtain ⟨s0, s1, s2, s3, s4, s5, rfl⟩ := six_of hS
  unfold bs at h0 h1
  unfold fc
  simp only [List.map_cons, List.map_nil, List.cons_append, List.nil_append] at h0 h1 ⊢
  unfold execOp
  simp only [ho]
  go_simp
set_option maxHeartbeats 1000000 in
theorem buildE (hD : D.length = 6) (hS : S.length = 6) (v : Int) (a0 a1 : Operand) (ho : o.op = .build 43 #[(0, a0), (1, a1)]) (h0 : ev a0 = .agg (fc D S K B)) (h1 : ev a1 = .int .i64 v) :
    (execOp ev o).run Try.prog w = .ok (.value (.agg (E8.mk D S K B v 0).c)) w := by
  obtain ⟨d0, d1, d2, d3, d4, d5, rfl⟩ := six_of hD
  obtain ⟨s0, s1, s2, s3, s4, s5, rfl⟩ := six_of hS
  unfold fc at h0
  unfold E8.c
  simp only [List.map_cons, List.map_nil, List.cons_append, List.nil_append] at h0 ⊢
  unfold execOp
  simp only [ho]
  go_simp
set_option maxHeartbeats 1000000 in
/-- a question's parts: what it wants to know is zero -/
theorem build9q {M I W : List UInt8} (hM : M.length = 6) (hI : I.length = 4) (hW : W.length = 4) (a0 a1 a3 a4 : Operand) (ho : o.op = .build 31 #[(0, a0), (1, a1), (3, a3), (4, a4)]) (h0 : ev a0 = .int .i64 K) (h1 : ev a1 = .agg (bs M)) (h3 : ev a3 = .agg (bs I)) (h4 : ev a4 = .agg (bs W)) :
    (execOp ev o).run Try.prog w = .ok (.value (.agg (A9.mk K M o6 I W).c)) w := by
  obtain ⟨d0, d1, d2, d3, d4, d5, rfl⟩ := six_of hM
  obtain ⟨i0, i1, i2, i3, rfl⟩ := four_of hI
  obtain ⟨k0, k1, k2, k3, rfl⟩ := four_of hW
  unfold bs at h1 h3 h4
  unfold A9.c o6
  simp only [List.map_cons, List.map_nil, List.cons_append, List.nil_append] at h1 h3 h4 ⊢
  unfold execOp
  simp only [ho]
  go_simp
end
set_option maxRecDepth 20000 in
set_option maxHeartbeats 1000000 in
theorem frame_any (D : List UInt8) (hD : D.length = 6) (x : A9) (hx : x.Fit) (hr : rightO x.op = true) (w : World) :
    Calls Try.prog 22 #[.agg (bs D), .agg x.c] w fun e w' => e = .returned (.agg (fc D x.m 2054 ⟨x.bytes.toArray⟩)) ∧ Below w.heap.size w w' := by
  have M : Mem w [(w.heap.size, 23, bs D), (w.heap.size + 1, 31, x.c), (w.heap.size + 2, 38, fz)] (((w.alloc (.cells (bs D) 23)).alloc (.cells x.c 31)).alloc (.cells fz 38)) :=
    (((Mem.init w).alloc _ rfl _ _).alloc _ (by simp) _ _).alloc _ (by simp) _ _
  have hp := fun W => print9_yes x hx hr W
  generalize (⟨x.bytes.toArray⟩ : ByteArray) = T at hp ⊢
  have HP := Lib.hid hp
  clear hp hr
  go_enter Try.func22, Try.ntmps22
  go_upto_region 1 with fail
  change Code.wp _ _ _ _ (((w.alloc (.cells (bs D) 23)).alloc (.cells x.c 31)).alloc (.cells fz 38))
  generalize ((w.alloc (.cells (bs D) 23)).alloc (.cells x.c 31)).alloc (.cells fz 38) = W0 at M ⊢
  have r1 := M.row 1 rfl
  go_wp2_with (first
    | (refine wpList_load_row rfl 31 (.tmp 3) rfl (w.heap.size + 1) rfl 31 x.c (0, 0) _ r1 Try.underlying31 rfl (a9_info hx) ?_))
  refine (HP.out _).mono ?_
  rintro e w1 ⟨rfl, hb1⟩
  replace M := M.step hb1
  clear hb1 r1
  have r0 := M.row 0 rfl
  have r1 := M.row 1 rfl
  have r2 := M.row 2 rfl
  have M2 := M.store 2 rfl (fc D x.m 2054 T)
  simp only [List.set_cons_zero, List.set_cons_succ] at M2
  have HM := Lib.hid M2
  clear M M2
  go_wp2_with (first
    | (refine wpList_load_row rfl 23 (.tmp 2) rfl w.heap.size rfl 23 (bs D) (0, 0) _ r0 Try.underlying23 rfl (mac_info hD) ?_)
    | (refine wpExec rfl (.agg (bs x.m)) (exec9_m r1 hx _ rfl rfl) ?_)
    | (refine wpExec rfl (.agg (fc D x.m 2054 T)) (buildF hD hx.m _ _ _ _ rfl rfl rfl rfl rfl) ?_)
    | (refine wpList_store_row rfl 38 (.tmp 4) (.tmp 16) rfl (w.heap.size + 2) (fc D x.m 2054 T) rfl rfl 38 fz r2 (fc_info hD hx.m _ _) (by rw [fc_size rfl rfl, fc_size hD hx.m]) (fc_one _ _ _ _) ?_))
  exact bodyPost_ret (v := .agg (fc D x.m 2054 T)) (results_cell_row rfl _ _ (w.heap.size + 2) 38 _ (0, 0) _ rfl (HM.out.row 2 rfl) Try.underlying38 rfl (fc_info hD hx.m _ _)) rfl ⟨rfl, HM.out.below⟩
/-- the address of all -/
def f6 : List UInt8 := [255, 255, 255, 255, 255, 255]
set_option maxRecDepth 20000 in
set_option maxHeartbeats 1000000 in
theorem question_any (M0 I0 W0 : List UInt8) (hM : M0.length = 6) (hI : I0.length = 4) (hW : W0.length = 4) (w : World) :
    Calls Try.prog 12 #[.agg (bs M0), .agg (bs I0), .agg (bs W0)] w fun e w' => e = .returned (.agg (fc f6 M0 2054 ⟨(A9.mk 1 M0 o6 I0 W0).bytes.toArray⟩)) ∧ Below w.heap.size w w' := by
  have M : Mem w [(w.heap.size, 23, bs M0), (w.heap.size + 1, 24, bs I0), (w.heap.size + 2, 24, bs W0), (w.heap.size + 3, 38, fz)]
      ((((w.alloc (.cells (bs M0) 23)).alloc (.cells (bs I0) 24)).alloc (.cells (bs W0) 24)).alloc (.cells fz 38)) :=
    ((((Mem.init w).alloc _ rfl _ _).alloc _ (by simp) _ _).alloc _ (by simp) _ _).alloc _ (by simp) _ _
  have hx : (A9.mk 1 M0 o6 I0 W0).Fit := ⟨hM, rfl, hI, hW⟩
  have hf := fun W => frame_any f6 rfl (A9.mk 1 M0 o6 I0 W0) hx rfl W
  generalize (⟨(A9.mk 1 M0 o6 I0 W0).bytes.toArray⟩ : ByteArray) = T at hf ⊢
  have HF := Lib.hid hf
  clear hf
  go_enter Try.func12, Try.ntmps12
  go_upto_region 1 with fail
  change Code.wp _ _ _ _ ((((w.alloc (.cells (bs M0) 23)).alloc (.cells (bs I0) 24)).alloc (.cells (bs W0) 24)).alloc (.cells fz 38))
  generalize (((w.alloc (.cells (bs M0) 23)).alloc (.cells (bs I0) 24)).alloc (.cells (bs W0) 24)).alloc (.cells fz 38) = V0 at M ⊢
  go_upto_region 2 with fail
  change Code.wp _ _ _ _ (V0.alloc (.cells (bs f6) 23))
  replace M := M.alloc _ rfl 23 (bs f6)
  simp only [List.cons_append, List.nil_append] at M
  generalize V0.alloc (.cells (bs f6) 23) = V1 at M ⊢
  generalize V0.heap.size = g at M ⊢
  have r0 := M.row 0 rfl
  have r1 := M.row 1 rfl
  have r2 := M.row 2 rfl
  have r4 := M.row 4 rfl
  go_wp2_with (first
    | (refine wpList_load_row rfl 23 (.tmp 7) rfl g rfl 23 (bs f6) (0, 0) _ r4 Try.underlying23 rfl (mac_info rfl) ?_)
    | (refine wpList_load_row rfl 23 (.tmp 3) rfl w.heap.size rfl 23 (bs M0) (0, 0) _ r0 Try.underlying23 rfl (mac_info hM) ?_)
    | (refine wpList_load_row rfl 24 (.tmp 4) rfl (w.heap.size + 1) rfl 24 (bs I0) (0, 0) _ r1 Try.underlying24 rfl (ip_info hI) ?_)
    | (refine wpList_load_row rfl 24 (.tmp 5) rfl (w.heap.size + 2) rfl 24 (bs W0) (0, 0) _ r2 Try.underlying24 rfl (ip_info hW) ?_)
    | (refine wpExec rfl (.agg (A9.mk 1 M0 o6 I0 W0).c) (build9q hM hI hW _ _ _ _ rfl rfl rfl rfl rfl) ?_))
  refine (HF.out _).mono ?_
  rintro e w1 ⟨rfl, hb1⟩
  replace M := M.step hb1
  clear hb1 r0 r1 r2 r4
  have r3 := M.row 3 rfl
  have M2 := M.store 3 rfl (fc f6 M0 2054 T)
  simp only [List.set_cons_zero, List.set_cons_succ] at M2
  have HM := Lib.hid M2
  clear M M2
  go_wp2_with (first
    | (refine wpList_store_row rfl 38 (.tmp 6) (.tmp 14) rfl (w.heap.size + 3) (fc f6 M0 2054 T) rfl rfl 38 fz r3 (fc_info rfl hM _ _) (by rw [fc_size rfl rfl, fc_size rfl hM]) (fc_one _ _ _ _) ?_))
  exact bodyPost_ret (v := .agg (fc f6 M0 2054 T)) (results_cell_row rfl _ _ (w.heap.size + 3) 38 _ (0, 0) _ rfl (HM.out.row 3 rfl) Try.underlying38 rfl (fc_info rfl hM _ _)) rfl ⟨rfl, HM.out.below⟩
set_option maxRecDepth 20000 in
set_option maxHeartbeats 1000000 in
theorem answer_any (q : A9) (hq : q.Fit) (O : List UInt8) (hO : O.length = 6) (w : World) :
    Calls Try.prog 13 #[.agg q.c, .agg (bs O)] w fun e w' => e = .returned (.agg (fc q.m O 2054 ⟨(A9.mk 2 O q.m q.w q.i).bytes.toArray⟩)) ∧ Below w.heap.size w w' := by
  have M : Mem w [(w.heap.size, 31, q.c), (w.heap.size + 1, 23, bs O), (w.heap.size + 2, 38, fz)] (((w.alloc (.cells q.c 31)).alloc (.cells (bs O) 23)).alloc (.cells fz 38)) :=
    (((Mem.init w).alloc _ rfl _ _).alloc _ (by simp) _ _).alloc _ (by simp) _ _
  have hx : (A9.mk 2 O q.m q.w q.i).Fit := ⟨hO, hq.m, hq.w, hq.i⟩
  have hf := fun W => frame_any q.m hq.m (A9.mk 2 O q.m q.w q.i) hx rfl W
  generalize (⟨(A9.mk 2 O q.m q.w q.i).bytes.toArray⟩ : ByteArray) = T at hf ⊢
  have HF := Lib.hid hf
  clear hf
  go_enter Try.func13, Try.ntmps13
  go_upto_region 1 with fail
  change Code.wp _ _ _ _ (((w.alloc (.cells q.c 31)).alloc (.cells (bs O) 23)).alloc (.cells fz 38))
  generalize ((w.alloc (.cells q.c 31)).alloc (.cells (bs O) 23)).alloc (.cells fz 38) = V0 at M ⊢
  have r0 := M.row 0 rfl
  have r1 := M.row 1 rfl
  go_wp2_with (first
    | (refine wpExec rfl (.agg (bs q.m)) (exec9_m r0 hq _ rfl rfl) ?_)
    | (refine wpExec rfl (.agg (bs q.w)) (exec9_w r0 hq _ rfl rfl) ?_)
    | (refine wpExec rfl (.agg (bs q.i)) (exec9_i r0 hq _ rfl rfl) ?_)
    | (refine wpList_load_row rfl 23 (.tmp 3) rfl (w.heap.size + 1) rfl 23 (bs O) (0, 0) _ r1 Try.underlying23 rfl (mac_info hO) ?_)
    | (refine wpExec rfl (.agg (A9.mk 2 O q.m q.w q.i).c) (build9a hx _ _ _ _ _ rfl rfl rfl rfl rfl rfl) ?_))
  refine (HF.out _).mono ?_
  rintro e w1 ⟨rfl, hb1⟩
  replace M := M.step hb1
  clear hb1 r0 r1
  have r2 := M.row 2 rfl
  have M2 := M.store 2 rfl (fc q.m O 2054 T)
  simp only [List.set_cons_zero, List.set_cons_succ] at M2
  have HM := Lib.hid M2
  clear M M2
  go_wp2_with (first
    | (refine wpList_store_row rfl 38 (.tmp 4) (.tmp 15) rfl (w.heap.size + 2) (fc q.m O 2054 T) rfl rfl 38 fz r2 (fc_info hq.m hO _ _) (by rw [fc_size rfl rfl, fc_size hq.m hO]) (fc_one _ _ _ _) ?_))
  exact bodyPost_ret (v := .agg (fc q.m O 2054 T)) (results_cell_row rfl _ _ (w.heap.size + 2) 38 _ (0, 0) _ rfl (HM.out.row 2 rfl) Try.underlying38 rfl (fc_info hq.m hO _ _)) rfl ⟨rfl, HM.out.below⟩
end Go.Proofs.Ytaoclfddamlcaaa
