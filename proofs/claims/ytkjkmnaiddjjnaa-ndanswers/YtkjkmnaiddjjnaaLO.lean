/- nd.Answer; the law NdAnswers: walked. -/
import Derived.Test.YtkjkmnaiddjjnaaLL
namespace Go.Proofs.Ytkjkmnaiddjjnaa
open Go.RowKit
/-- the flags of an answer -/
def g96 : List UInt8 := [96, 0, 0, 0]
theorem build_g96 {o : Oper} {ev : Operand → Value} {w : World} (he : ev (.const (.int .u8 96)) = .int .u8 96) (ho : o.op = .build 25 #[(0, .const (.int .u8 96))]) : (execOp ev o).run Try.prog w = .ok (.value (.agg (bs g96))) w := by
  refine exec_build 25 _ _ ho ?_
  simp only [List.map_toArray, List.map_cons, List.map_nil, he]
  kernel_rfl
theorem exec_sameB {o : Oper} {ev : Operand → Value} {w : World} (t : TypeId) (n : Nat) (ht : Try.prog.underlying t = some (.array n 5)) (hm : Try.prog.eqGuardType Try.prog.depth t = false) (l : List UInt8) (hl : l.length = n) (p q : Operand) (ho : o.op = .binOp .eql t p q t) (hp : ev p = .agg (bs l)) (hq : ev q = .agg (bs l)) :
    (execOp ev o).run Try.prog w = .ok (.value (.bool true)) w := by
  have h := exec_eqB (w := w) t n ht hm p q l l hl hl ho hp hq
  rwa [beq_self_eq_true] at h
/-- the answer that a question is given -/
abbrev ansOf (q : N10) (O : List UInt8) : N10 := N10.mk 2 q.a q.f q.a O true g96
theorem ans_fit {q : N10} (hq : q.Fit) {O : List UInt8} (hO : O.length = 6) : (ansOf q O).Fit := ⟨hq.a, hq.f, hq.a, hO, rfl⟩
set_option maxRecDepth 20000 in
set_option maxHeartbeats 1000000 in
theorem answer10_any (q : N10) (hq : q.Fit) (O D : List UInt8) (hO : O.length = 6) (hD : D.length = 6) (w : World) :
    Calls Try.prog 13 #[.agg q.c, .agg (bs O), .agg (bs D)] w fun e w' => e = .returned (.agg (fc D O 34525 ⟨(ansOf q O).bytes.toArray⟩)) ∧ Below w.heap.size w w' := by
  have M : Mem w [(w.heap.size, 32, q.c), (w.heap.size + 1, 24, bs O), (w.heap.size + 2, 24, bs D), (w.heap.size + 3, 42, fz)] ((((w.alloc (.cells q.c 32)).alloc (.cells (bs O) 24)).alloc (.cells (bs D) 24)).alloc (.cells fz 42)) :=
    ((((Mem.init w).alloc _ rfl _ _).alloc _ (by simp) _ _).alloc _ (by simp) _ _).alloc _ (by simp) _ _
  have hx := ans_fit hq hO
  have hp := fun W => print10_full (ansOf q O) hx rfl rfl W
  generalize (⟨(ansOf q O).bytes.toArray⟩ : ByteArray) = T at hp ⊢
  have HP := Lib.hid hp
  clear hp
  go_enter Try.func13, Try.ntmps13
  go_upto_region 1 with fail
  change Code.wp _ _ _ _ ((((w.alloc (.cells q.c 32)).alloc (.cells (bs O) 24)).alloc (.cells (bs D) 24)).alloc (.cells fz 42))
  generalize (((w.alloc (.cells q.c 32)).alloc (.cells (bs O) 24)).alloc (.cells (bs D) 24)).alloc (.cells fz 42) = V0 at M ⊢
  have r0 := M.row 0 rfl
  have r1 := M.row 1 rfl
  replace M := M.alloc _ rfl 32 nz.c
  simp only [List.cons_append, List.nil_append] at M
  have r4 := M.row 4 rfl
  replace M := M.store 4 rfl (ansOf q O).c
  simp only [List.set_cons_zero, List.set_cons_succ] at M
  have HM := Lib.hid M
  clear M
  go_upto_region 2 with (first
    | (refine wpExec rfl (.agg (bs q.f)) (exec10_f r0 hq _ rfl rfl) ?_)
    | (refine wpExec rfl (.agg (bs q.a)) (exec10_a r0 hq _ rfl rfl) ?_)
    | (refine wpList_load_row rfl 24 (.tmp 4) rfl (w.heap.size + 1) rfl 24 (bs O) (0, 0) _ r1 Try.underlying24 rfl (mac_info hO) ?_)
    | (refine wpExec rfl (.agg (bs g96)) (build_g96 rfl rfl) ?_)
    | (refine wpExec rfl (.agg (ansOf q O).c) (build10 hx _ _ _ _ _ _ _ rfl rfl rfl rfl rfl rfl rfl rfl) ?_)
    | (refine wpList_store_row rfl 32 (.tmp 7) (.tmp 18) rfl V0.heap.size (ansOf q O).c rfl rfl 32 nz.c r4 (n10_info hx) (by rw [N10.size nz_fit, N10.size hx]) (N10.one _) ?_))
  change Code.wp _ _ _ _ ((V0.alloc (.cells nz.c 32)).setRow V0.heap.size (ansOf q O).c)
  have M := HM.out
  clear r0 r1 r4 HM
  generalize (V0.alloc (.cells nz.c 32)).setRow V0.heap.size (ansOf q O).c = V1 at M ⊢
  generalize V0.heap.size = g at M ⊢
  have r4 := M.row 4 rfl
  go_wp2_with (first
    | (refine wpList_load_row rfl 32 (.tmp 7) rfl g rfl 32 (ansOf q O).c (0, 0) _ r4 Try.underlying32 rfl (n10_info hx) ?_))
  refine (HP.out _).mono ?_
  rintro e w1 ⟨rfl, hb1⟩
  replace M := M.step hb1
  clear hb1 r4
  have r1 := M.row 1 rfl
  have r2 := M.row 2 rfl
  have r3 := M.row 3 rfl
  have M2 := M.store 3 rfl (fc D O 34525 T)
  simp only [List.set_cons_zero, List.set_cons_succ] at M2
  have HM := Lib.hid M2
  clear M M2
  go_wp2_with (first
    | (refine wpList_load_row rfl 24 (.tmp 5) rfl (w.heap.size + 2) rfl 24 (bs D) (0, 0) _ r2 Try.underlying24 rfl (mac_info hD) ?_)
    | (refine wpList_load_row rfl 24 (.tmp 4) rfl (w.heap.size + 1) rfl 24 (bs O) (0, 0) _ r1 Try.underlying24 rfl (mac_info hO) ?_)
    | (refine wpExec rfl (.agg (fc D O 34525 T)) (buildF hD hO _ _ _ _ rfl rfl rfl rfl rfl) ?_)
    | (refine wpList_store_row rfl 42 (.tmp 6) (.tmp 27) rfl (w.heap.size + 3) (fc D O 34525 T) rfl rfl 42 fz r3 (fc_info hD hO _ _) (by rw [fc_size rfl rfl, fc_size hD hO]) (fc_one _ _ _ _) ?_))
  exact bodyPost_ret (v := .agg (fc D O 34525 T)) (results_cell_row rfl _ _ (w.heap.size + 3) 42 _ (0, 0) _ rfl (HM.out.row 3 rfl) Try.underlying42 rfl (fc_info hD hO _ _)) rfl ⟨rfl, HM.out.below⟩
theorem frame10_print (D S : List UInt8) (hD : D.length = 6) (hS : S.length = 6) (x : N10) (hx : x.Fit) (w : World) :
    Calls Try.prog 14 #[.agg (E8.mk D S 34525 ⟨x.bytes.toArray⟩ (-1) 0).c] w fun e w' => e = .returned (.tuple #[.string ⟨(E8.mk D S 34525 ⟨x.bytes.toArray⟩ (-1) 0).bytes.toArray⟩, .int .i64 0]) ∧ Below w.heap.size w w' := by
  have h := print_any (E8.mk D S 34525 ⟨x.bytes.toArray⟩ (-1) 0) ⟨hD, hS⟩ w
  have hb := print10_size hx
  have hr : (E8.mk D S 34525 ⟨x.bytes.toArray⟩ (-1) 0).right = true := by
    unfold E8.right
    simp only
    rw [decide_eq_true (show (⟨x.bytes.toArray⟩ : ByteArray).size ≤ 1500 by omega)]
    rfl
  unfold printF at h
  rw [if_pos hr] at h
  exact h
theorem parse_whole10 {x : N10} (h : x.Fit) (hr : x.right = true) : parse10 ⟨x.bytes.toArray⟩ = (0, x) := by
  have := parse_print10 h hr []
  rwa [List.append_nil] at this
theorem allocF {o : Oper} {ev : Operand → Value} {w : World} (ho : o.op = .alloc 42) : (execOp ev o).run Try.prog w = .ok (.value (.pointer (some ⟨w.heap.size, 0, none⟩))) (w.alloc (.cells fz 42)) := by
  unfold execOp
  simp only [ho]
  go_simp
  rfl
set_option maxRecDepth 40000 in
set_option maxHeartbeats 4000000 in
theorem answers10_any (q : N10) (hq : q.Fit) (m d : List UInt8) (hm : m.length = 6) (hd : d.length = 6) (w : World) :
    Calls Try.prog 5 #[.agg q.c, .agg (bs m), .agg (bs d)] w fun e w' => e = .returned (.bool true) ∧ Below w.heap.size w w' := by
  have M : Mem w [(w.heap.size, 27, q.c), (w.heap.size + 1, 24, bs m), (w.heap.size + 2, 24, bs d)] (((w.alloc (.cells q.c 27)).alloc (.cells (bs m) 24)).alloc (.cells (bs d) 24)) :=
    (((Mem.init w).alloc _ rfl _ _).alloc _ (by simp) _ _).alloc _ (by simp) _ _
  have hx := ans_fit hq hm
  have ha := fun W => awake10_any W
  have hof := fun W => of10_any q hq W
  have han := fun W => answer10_any q hq m d hm hd W
  have hpa := fun W => parse10_any ⟨(ansOf q m).bytes.toArray⟩ W
  rw [parse_whole10 hx rfl] at hpa
  have he := fun W => frame10_print d m hd hm _ hx W
  generalize (⟨(ansOf q m).bytes.toArray⟩ : ByteArray) = T at han hpa he
  generalize (⟨(E8.mk d m 34525 T (-1) 0).bytes.toArray⟩ : ByteArray) = P at he
  have HA := Lib.hid ha
  have HO := Lib.hid hof
  have HAN := Lib.hid han
  have HPA := Lib.hid hpa
  have HE := Lib.hid he
  clear ha hof han hpa he
  go_enter Try.func5, Try.ntmps5
  go_upto_region 1 with fail
  change Code.wp _ _ _ _ (((w.alloc (.cells q.c 27)).alloc (.cells (bs m) 24)).alloc (.cells (bs d) 24))
  generalize ((w.alloc (.cells q.c 27)).alloc (.cells (bs m) 24)).alloc (.cells (bs d) 24) = V0 at M ⊢
  go_wp2_with fail
  refine (HA.out _).mono ?_
  rintro e w1 ⟨rfl, hb1⟩
  replace M := M.step hb1
  clear hb1
  go_upto_region 3 with fail
  refine wp_region_noPanic ?_
  refine wp_region_flow (fin := ?fin1) 6 1 (by kernel_rfl) [.inl (.agg q.c),
    .inl (.agg q.c),
    .inl (.agg (bs m)),
    .inl (.agg (bs d)),
    .inl (.agg (fc d m 34525 T)),
    .inr (42, fz, none)] rfl rfl (by kernel_rfl) ?hfin1 ?hE1 ?hend1
  case hfin1 =>
    intro G
    simp only [flowAll, flowVal, Act.put, List.setIfInBounds_toArray, List.set_cons_zero, List.set_cons_succ]
    exact rfl
  case hE1 =>
    intro G
    refine ⟨Or.inr (fun W hB hR => known_val rfl (by exact exec_load_row 27 (.tmp 3) w.heap.size ((M.drew.step hB).row 0 rfl) Try.underlying27 rfl (r10_info hq) rfl rfl)),
      Or.inr (fun W hB hR => known_call 9 #[.agg q.c] (HO.out W) rfl (by go_simp)),
      Or.inr (fun W hB hR => known_val rfl (by exact exec_load_row 24 (.tmp 4) (w.heap.size + 1) ((M.drew.step hB).row 1 rfl) Try.underlying24 rfl (mac_info hm) rfl rfl)),
      Or.inr (fun W hB hR => known_val rfl (by exact exec_load_row 24 (.tmp 5) (w.heap.size + 2) ((M.drew.step hB).row 2 rfl) Try.underlying24 rfl (mac_info hd) rfl rfl)),
      Or.inr (fun W hB hR => known_call 13 #[.agg q.c, .agg (bs m), .agg (bs d)] (HAN.out W) rfl (by go_simp)),
      ⟨rfl, fun W => made_ptr (allocF rfl)⟩, trivial⟩
  intro G W hB hM
  replace M := M.drew.made hB hM 5 rfl rfl
  simp only [List.cons_append, List.nil_append] at M
  generalize G 5 = gf at M ⊢
  clear hB hM G
  refine only0 6 (W.setRow gf (fc d m 34525 T)) _ (by kernel_rfl) rfl rfl rfl (exec_store_row 42 (.tmp 7) (.tmp 18) gf _ (M.row 3 rfl) (fc_info hd hm _ _) (by rw [fc_size rfl rfl, fc_size hd hm]) (fc_one _ _ _ _) rfl rfl rfl) ?_
  replace M := M.store 3 rfl (fc d m 34525 T)
  simp only [List.set_cons_zero, List.set_cons_succ] at M
  generalize W.setRow gf (fc d m 34525 T) = W1 at M ⊢
  simp only [Act.put]
  refine wpAny_end (by kernel_rfl) ?_ _
  refine NoPanic.normal ?_
  have cy := (M.row 3 rfl).fy hd hm
  go_wp2_with fail
  refine (HPA.out _).mono ?_
  rintro e w5 ⟨rfl, hb5⟩
  replace M := M.step hb5
  clear hb5 cy
  replace M := M.alloc _ rfl 32 nz.c
  simp only [List.cons_append, List.nil_append] at M
  have r4 := M.row 4 rfl
  replace M := M.store 4 rfl (ansOf q m).c
  simp only [List.set_cons_zero, List.set_cons_succ] at M
  have HM := Lib.hid M
  clear M
  go_upto_region 5 with (first
    | (refine wpList_store_row rfl 32 (.tmp 8) (.tmp 23) rfl w5.heap.size (ansOf q m).c rfl rfl 32 nz.c r4 (n10_info hx) (by rw [N10.size nz_fit, N10.size hx]) (N10.one _) ?_))
  change Code.wp _ _ _ _ ((w5.alloc (.cells nz.c 32)).setRow w5.heap.size (ansOf q m).c)
  have M := HM.out
  clear r4 HM
  generalize (w5.alloc (.cells nz.c 32)).setRow w5.heap.size (ansOf q m).c = V5 at M ⊢
  generalize w5.heap.size = gb at M ⊢
  have r3 := M.row 3 rfl
  go_wp2_with (first
    | (refine wpList_load_row rfl 42 (.tmp 7) rfl gf rfl 42 (fc d m 34525 T) (0, 0) _ r3 Try.underlying42 rfl (fc_info hd hm _ _) ?_)
    | (refine wpExec rfl (.agg (E8.mk d m 34525 T (-1) 0).c) (buildE hd hm _ _ _ rfl rfl rfl) ?_))
  refine (HE.out _).mono ?_
  rintro e w6 ⟨rfl, hb6⟩
  replace M := M.step hb6
  clear hb6 r3
  go_upto_region 6 with fail
  have r0 := M.row 0 rfl
  have r1 := M.row 1 rfl
  have r2 := M.row 2 rfl
  have r3 := M.row 3 rfl
  have r4 := M.row 4 rfl
  have t3 := r3.ft hd hm
  have o4 := r4.n_op
  have h4 := r4.n_h hx
  have HB := Lib.hid M.below
  clear M HA HO HAN HPA HE
  simp only [List.append_eq, List.cons_append, List.nil_append]
  go_wp2_with (first
    | (refine wpExecG (by kernel_rfl) (.agg (bs d)) (exec_fd r3 hd _ rfl rfl) ?_)
    | (refine wpExecG (by kernel_rfl) (.agg (bs m)) (exec_fs r3 hd hm _ rfl rfl) ?_)
    | (refine wpExecG (by kernel_rfl) (.agg (bs q.a)) (exec10_f r4 hx _ rfl rfl) ?_)
    | (refine wpExecG (by kernel_rfl) (.agg (bs q.f)) (exec10_t r4 hx _ rfl rfl) ?_)
    | (refine wpExecG (by kernel_rfl) (.agg (bs q.a)) (exec10_a (x := ansOf q m) r4 hx _ rfl rfl) ?_)
    | (refine wpExecG (by kernel_rfl) (.agg (bs m)) (exec10_m r4 hx _ rfl rfl) ?_)
    | (refine wpExecG (by kernel_rfl) (.agg (bs g96)) (exec10_g r4 hx _ rfl rfl) ?_)
    | (refine wpExecG (by kernel_rfl) (.agg (bs q.f)) (exec10_f r0 hq _ rfl rfl) ?_)
    | (refine wpExecG (by kernel_rfl) (.agg (bs q.a)) (exec10_a r0 hq _ rfl rfl) ?_)
    | (refine wpExecG (by kernel_rfl) (.agg (bs m)) (exec_load_row 24 (.tmp 4) (w.heap.size + 1) r1 Try.underlying24 rfl (mac_info hm) rfl rfl) ?_)
    | (refine wpExecG (by kernel_rfl) (.agg (bs d)) (exec_load_row 24 (.tmp 5) (w.heap.size + 2) r2 Try.underlying24 rfl (mac_info hd) rfl rfl) ?_)
    | (refine wpExecG (by kernel_rfl) (.agg (bs g96)) (build_g96 rfl rfl) ?_)
    | (refine wpExecG (by kernel_rfl) (.bool true) (exec_same_mac m hm _ _ rfl rfl rfl) ?_)
    | (refine wpExecG (by kernel_rfl) (.bool true) (exec_same_mac d hd _ _ rfl rfl rfl) ?_)
    | (refine wpExecG (by kernel_rfl) (.bool true) (exec_sameB 22 16 Try.underlying22 (by kernel_rfl) q.a hq.a _ _ rfl rfl rfl) ?_)
    | (refine wpExecG (by kernel_rfl) (.bool true) (exec_sameB 22 16 Try.underlying22 (by kernel_rfl) q.f hq.f _ _ rfl rfl rfl) ?_)
    | (refine wpExecG (by kernel_rfl) (.bool true) (exec_sameB 25 4 Try.underlying25 (by kernel_rfl) g96 rfl _ _ rfl rfl rfl) ?_))
  go_ret
  exact ⟨rfl, HB.out⟩
end Go.Proofs.Ytkjkmnaiddjjnaa
