/- The law ArpFrames: walked. -/
import Derived.Test.YtaoclfddamlcaaaWP
namespace Go.Proofs.Ytaoclfddamlcaaa
open Go.RowKit
theorem parse_whole {x : A9} (h : x.Fit) (hr : rightO x.op = true) : parse9 ⟨x.bytes.toArray⟩ = (0, x) := by
  have := parse_print h hr []
  rwa [List.append_nil] at this
theorem build_f6 {q : Oper} {ev : Operand → Value} {w : World} (he : ev (.const (.int .u8 255)) = .int .u8 255) (ho : q.op = .build 23 #[(0, .const (.int .u8 255)), (1, .const (.int .u8 255)), (2, .const (.int .u8 255)), (3, .const (.int .u8 255)), (4, .const (.int .u8 255)), (5, .const (.int .u8 255))]) :
    (execOp ev q).run Try.prog w = .ok (.value (.agg (bs f6))) w := by
  unfold execOp
  simp only [ho]
  go_simp
  rfl
/-- such a frame can be printed -/
theorem frame_right (D S : List UInt8) (x : A9) (hx : x.Fit) (v : Int) (hv : v = -1 ∨ v = 7) : (E8.mk D S 2054 ⟨x.bytes.toArray⟩ v 0).right = true := by
  have hb : (⟨x.bytes.toArray⟩ : ByteArray).size = 28 := by rw [str_size, A9.bytes_length hx]
  unfold E8.right
  simp only [hb]
  rcases hv with rfl | rfl <;> rfl
theorem frame_print (D S : List UInt8) (hD : D.length = 6) (hS : S.length = 6) (x : A9) (hx : x.Fit) (v : Int) (hv : v = -1 ∨ v = 7) (w : World) :
    Calls Try.prog 14 #[.agg (E8.mk D S 2054 ⟨x.bytes.toArray⟩ v 0).c] w fun e w' => e = .returned (.tuple #[.string ⟨(E8.mk D S 2054 ⟨x.bytes.toArray⟩ v 0).bytes.toArray⟩, .int .i64 0]) ∧ Below w.heap.size w w' := by
  have h := print_any (E8.mk D S 2054 ⟨x.bytes.toArray⟩ v 0) ⟨hD, hS⟩ w
  unfold printF at h
  rw [if_pos (frame_right D S x hx v hv)] at h
  exact h
set_option maxRecDepth 40000 in
set_option maxHeartbeats 4000000 in
theorem frames9_any (m o : List UInt8) (hm : m.length = 6) (ho : o.length = 6) (i k : List UInt8) (hi : i.length = 4) (hk : k.length = 4) (w : World) :
    Calls Try.prog 4 #[.agg (bs m), .agg (bs o), .agg (bs i), .agg (bs k)] w fun e w' => e = .returned (.bool true) ∧ Below w.heap.size w w' := by
  have M : Mem w [(w.heap.size, 23, bs m), (w.heap.size + 1, 23, bs o), (w.heap.size + 2, 24, bs i), (w.heap.size + 3, 24, bs k)]
      ((((w.alloc (.cells (bs m) 23)).alloc (.cells (bs o) 23)).alloc (.cells (bs i) 24)).alloc (.cells (bs k) 24)) :=
    ((((Mem.init w).alloc _ rfl _ _).alloc _ (by simp) _ _).alloc _ (by simp) _ _).alloc _ (by simp) _ _
  have ha := fun W => awake9_any W
  have hq := fun W => question_any m i k hm hi hk W
  have xq : (A9.mk 1 m o6 i k).Fit := ⟨hm, rfl, hi, hk⟩
  have xa : (A9.mk 2 o m k i).Fit := ⟨ho, hm, hk, hi⟩
  have hpq := fun W => parse9_any ⟨(A9.mk 1 m o6 i k).bytes.toArray⟩ W
  rw [parse_whole xq rfl] at hpq
  have han := fun W => answer_any (A9.mk 1 m o6 i k) xq o ho W
  have hpa := fun W => parse9_any ⟨(A9.mk 2 o m k i).bytes.toArray⟩ W
  rw [parse_whole xa rfl] at hpa
  have he1 := fun W => frame_print f6 m rfl hm _ xq (-1) (Or.inl rfl) W
  have he2 := fun W => frame_print m o hm ho _ xa 7 (Or.inr rfl) W
  have HX := Lib.hid (And.intro xq xa)
  generalize (⟨(A9.mk 1 m o6 i k).bytes.toArray⟩ : ByteArray) = Tq at hq hpq he1
  replace han : ∀ W, Calls Try.prog 13 #[.agg (A9.mk 1 m o6 i k).c, .agg (bs o)] W fun e w' => e = .returned (.agg (fc m o 2054 ⟨(A9.mk 2 o m k i).bytes.toArray⟩)) ∧ Below W.heap.size W w' := han
  generalize (⟨(A9.mk 2 o m k i).bytes.toArray⟩ : ByteArray) = Ta at han hpa he2
  generalize (⟨(E8.mk f6 m 2054 Tq (-1) 0).bytes.toArray⟩ : ByteArray) = P1 at he1
  generalize (⟨(E8.mk m o 2054 Ta 7 0).bytes.toArray⟩ : ByteArray) = P2 at he2
  have HA := Lib.hid ha
  have HQ := Lib.hid hq
  have HPQ := Lib.hid hpq
  have HAN := Lib.hid han
  have HPA := Lib.hid hpa
  have HE1 := Lib.hid he1
  have HE2 := Lib.hid he2
  clear ha hq hpq han hpa he1 he2 xq xa
  go_enter Try.func4, Try.ntmps4
  go_upto_region 1 with fail
  change Code.wp _ _ _ _ ((((w.alloc (.cells (bs m) 23)).alloc (.cells (bs o) 23)).alloc (.cells (bs i) 24)).alloc (.cells (bs k) 24))
  generalize (((w.alloc (.cells (bs m) 23)).alloc (.cells (bs o) 23)).alloc (.cells (bs i) 24)).alloc (.cells (bs k) 24) = V0 at M ⊢
  go_wp2_with fail
  refine (HA.out _).mono ?_
  rintro e w1 ⟨rfl, hb1⟩
  replace M := M.step hb1
  clear hb1
  have r0 := M.row 0 rfl
  have r2 := M.row 2 rfl
  have r3 := M.row 3 rfl
  go_wp2_with (first
    | (refine wpList_load_row rfl 23 (.tmp 4) rfl w.heap.size rfl 23 (bs m) (0, 0) _ r0 Try.underlying23 rfl (mac_info hm) ?_)
    | (refine wpList_load_row rfl 24 (.tmp 6) rfl (w.heap.size + 2) rfl 24 (bs i) (0, 0) _ r2 Try.underlying24 rfl (ip_info hi) ?_)
    | (refine wpList_load_row rfl 24 (.tmp 7) rfl (w.heap.size + 3) rfl 24 (bs k) (0, 0) _ r3 Try.underlying24 rfl (ip_info hk) ?_))
  refine (HQ.out _).mono ?_
  rintro e w2 ⟨rfl, hb2⟩
  replace M := M.step hb2
  clear hb2 r0 r2 r3
  replace M := M.alloc _ rfl 38 fz
  simp only [List.cons_append, List.nil_append] at M
  have r4 := M.row 4 rfl
  replace M := M.store 4 rfl (fc f6 m 2054 Tq)
  simp only [List.set_cons_zero, List.set_cons_succ] at M
  have HM := Lib.hid M
  clear M
  go_upto_region 4 with (first
    | (refine wpList_store_row rfl 38 (.tmp 9) (.tmp 25) rfl w2.heap.size (fc f6 m 2054 Tq) rfl rfl 38 fz r4 (fc_info rfl hm _ _) (by rw [fc_size rfl rfl, fc_size rfl hm]) (fc_one _ _ _ _) ?_))
  change Code.wp _ _ _ _ ((w2.alloc (.cells fz 38)).setRow w2.heap.size (fc f6 m 2054 Tq))
  have M := HM.out
  clear r4 HM
  generalize (w2.alloc (.cells fz 38)).setRow w2.heap.size (fc f6 m 2054 Tq) = V2 at M ⊢
  generalize w2.heap.size = gq at M ⊢
  have cy := (M.row 4 rfl).fy rfl hm
  go_wp2_with fail
  refine (HPQ.out _).mono ?_
  rintro e w3 ⟨rfl, hb3⟩
  replace M := M.step hb3
  clear hb3 cy
  replace M := M.alloc _ rfl 31 az.c
  simp only [List.cons_append, List.nil_append] at M
  have r5 := M.row 5 rfl
  replace M := M.store 5 rfl (A9.mk 1 m o6 i k).c
  simp only [List.set_cons_zero, List.set_cons_succ] at M
  have HM := Lib.hid M
  clear M
  go_upto_region 5 with (first
    | (refine wpList_store_row rfl 31 (.tmp 10) (.tmp 30) rfl w3.heap.size (A9.mk 1 m o6 i k).c rfl rfl 31 az.c r5 (a9_info HX.out.1) (by rw [A9.size az_fit, A9.size HX.out.1]) (A9.one _) ?_))
  change Code.wp _ _ _ _ ((w3.alloc (.cells az.c 31)).setRow w3.heap.size (A9.mk 1 m o6 i k).c)
  have M := HM.out
  clear r5 HM
  generalize (w3.alloc (.cells az.c 31)).setRow w3.heap.size (A9.mk 1 m o6 i k).c = V3 at M ⊢
  generalize w3.heap.size = ga at M ⊢
  have r1 := M.row 1 rfl
  have r5 := M.row 5 rfl
  go_wp2_with (first
    | (refine wpList_load_row rfl 31 (.tmp 10) rfl ga rfl 31 (A9.mk 1 m o6 i k).c (0, 0) _ r5 Try.underlying31 rfl (a9_info HX.out.1) ?_)
    | (refine wpList_load_row rfl 23 (.tmp 5) rfl (w.heap.size + 1) rfl 23 (bs o) (0, 0) _ r1 Try.underlying23 rfl (mac_info ho) ?_))
  refine (HAN.out _).mono ?_
  rintro e w4 ⟨rfl, hb4⟩
  replace M := M.step hb4
  clear hb4 r1 r5
  replace M := M.alloc _ rfl 38 fz
  simp only [List.cons_append, List.nil_append] at M
  have r6 := M.row 6 rfl
  replace M := M.store 6 rfl (fc m o 2054 Ta)
  simp only [List.set_cons_zero, List.set_cons_succ] at M
  have HM := Lib.hid M
  clear M
  go_upto_region 6 with (first
    | (refine wpList_store_row rfl 38 (.tmp 12) (.tmp 34) rfl w4.heap.size (fc m o 2054 Ta) rfl rfl 38 fz r6 (fc_info hm ho _ _) (by rw [fc_size rfl rfl, fc_size hm ho]) (fc_one _ _ _ _) ?_))
  change Code.wp _ _ _ _ ((w4.alloc (.cells fz 38)).setRow w4.heap.size (fc m o 2054 Ta))
  have M := HM.out
  clear r6 HM
  generalize (w4.alloc (.cells fz 38)).setRow w4.heap.size (fc m o 2054 Ta) = V4 at M ⊢
  generalize w4.heap.size = gf at M ⊢
  have cy := (M.row 6 rfl).fy hm ho
  go_wp2_with fail
  refine (HPA.out _).mono ?_
  rintro e w5 ⟨rfl, hb5⟩
  replace M := M.step hb5
  clear hb5 cy
  replace M := M.alloc _ rfl 31 az.c
  simp only [List.cons_append, List.nil_append] at M
  have r7 := M.row 7 rfl
  replace M := M.store 7 rfl (A9.mk 2 o m k i).c
  simp only [List.set_cons_zero, List.set_cons_succ] at M
  have HM := Lib.hid M
  clear M
  go_upto_region 7 with (first
    | (refine wpList_store_row rfl 31 (.tmp 13) (.tmp 39) rfl w5.heap.size (A9.mk 2 o m k i).c rfl rfl 31 az.c r7 (a9_info HX.out.2) (by rw [A9.size az_fit, A9.size HX.out.2]) (A9.one _) ?_))
  change Code.wp _ _ _ _ ((w5.alloc (.cells az.c 31)).setRow w5.heap.size (A9.mk 2 o m k i).c)
  have M := HM.out
  clear r7 HM
  generalize (w5.alloc (.cells az.c 31)).setRow w5.heap.size (A9.mk 2 o m k i).c = V5 at M ⊢
  generalize w5.heap.size = gb at M ⊢
  have r4 := M.row 4 rfl
  go_wp2_with (first
    | (refine wpList_load_row rfl 38 (.tmp 9) rfl gq rfl 38 (fc f6 m 2054 Tq) (0, 0) _ r4 Try.underlying38 rfl (fc_info rfl hm _ _) ?_)
    | (refine wpExec rfl (.agg (E8.mk f6 m 2054 Tq (-1) 0).c) (buildE rfl hm _ _ _ rfl rfl rfl) ?_))
  refine (HE1.out _).mono ?_
  rintro e w6 ⟨rfl, hb6⟩
  replace M := M.step hb6
  clear hb6 r4
  have r6 := M.row 6 rfl
  go_wp2_with (first
    | (refine wpList_load_row rfl 38 (.tmp 12) rfl gf rfl 38 (fc m o 2054 Ta) (0, 0) _ r6 Try.underlying38 rfl (fc_info hm ho _ _) ?_)
    | (refine wpExec rfl (.agg (E8.mk m o 2054 Ta 7 0).c) (buildE hm ho _ _ _ rfl rfl rfl) ?_))
  refine (HE2.out _).mono ?_
  rintro e w7 ⟨rfl, hb7⟩
  replace M := M.step hb7
  clear hb7 r6
  have r4 := M.row 4 rfl
  go_upto_region 10 with (first
    | (refine wpExec rfl (.agg (bs f6)) (exec_fd r4 rfl _ rfl rfl) ?_)
    | (refine wpExec rfl (.agg (bs f6)) (build_f6 rfl rfl) ?_)
    | (refine wpExec rfl (.bool true) (exec_same_mac f6 rfl _ _ rfl rfl rfl) ?_))
  clear r4
  have r0 := M.row 0 rfl
  have r1 := M.row 1 rfl
  have r2 := M.row 2 rfl
  have r3 := M.row 3 rfl
  have r4 := M.row 4 rfl
  have r5 := M.row 5 rfl
  have r6 := M.row 6 rfl
  have r7 := M.row 7 rfl
  have t4 := r4.ft rfl hm
  have t6 := r6.ft hm ho
  have o5 := r5.aop
  have o7 := r7.aop
  have HB := Lib.hid M.below
  have HF := Lib.hid HX.out.2
  clear M HA HQ HPQ HAN HPA HE1 HE2 HX
  simp only [List.append_eq, List.cons_append, List.nil_append]
  go_wp2_with (first
    | (refine wpExecG (by kernel_rfl) (.agg (bs m)) (exec_fs r4 rfl hm _ rfl rfl) ?_)
    | (refine wpExecG (by kernel_rfl) (.agg (bs m)) (exec_fd r6 hm _ rfl rfl) ?_)
    | (refine wpExecG (by kernel_rfl) (.agg (bs o)) (exec_fs r6 hm ho _ rfl rfl) ?_)
    | (refine wpExecG (by kernel_rfl) (.agg (bs o)) (exec9_m r7 HF.out _ rfl rfl) ?_)
    | (refine wpExecG (by kernel_rfl) (.agg (bs k)) (exec9_i r7 HF.out _ rfl rfl) ?_)
    | (refine wpExecG (by kernel_rfl) (.agg (bs m)) (exec9_t r7 HF.out _ rfl rfl) ?_)
    | (refine wpExecG (by kernel_rfl) (.agg (bs i)) (exec9_w r7 HF.out _ rfl rfl) ?_)
    | (refine wpExecG (by kernel_rfl) (.agg (bs m)) (exec_load_row 23 (.tmp 4) w.heap.size r0 Try.underlying23 rfl (mac_info hm) rfl rfl) ?_)
    | (refine wpExecG (by kernel_rfl) (.agg (bs o)) (exec_load_row 23 (.tmp 5) (w.heap.size + 1) r1 Try.underlying23 rfl (mac_info ho) rfl rfl) ?_)
    | (refine wpExecG (by kernel_rfl) (.agg (bs i)) (exec_load_row 24 (.tmp 6) (w.heap.size + 2) r2 Try.underlying24 rfl (ip_info hi) rfl rfl) ?_)
    | (refine wpExecG (by kernel_rfl) (.agg (bs k)) (exec_load_row 24 (.tmp 7) (w.heap.size + 3) r3 Try.underlying24 rfl (ip_info hk) rfl rfl) ?_)
    | (refine wpExecG (by kernel_rfl) (.bool true) (exec_same_mac m hm _ _ rfl rfl rfl) ?_)
    | (refine wpExecG (by kernel_rfl) (.bool true) (exec_same_mac o ho _ _ rfl rfl rfl) ?_)
    | (refine wpExecG (by kernel_rfl) (.bool true) (exec_same_ip i hi _ _ rfl rfl rfl) ?_)
    | (refine wpExecG (by kernel_rfl) (.bool true) (exec_same_ip k hk _ _ rfl rfl rfl) ?_))
  go_ret
  exact ⟨rfl, HB.out⟩
end Go.Proofs.Ytaoclfddamlcaaa
