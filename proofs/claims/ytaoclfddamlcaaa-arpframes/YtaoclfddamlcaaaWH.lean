/- arp.Parse: a body: walked; whatever the text. -/
import Derived.Test.YtaoclfddamlcaaaWG
namespace Go.Proofs.Ytaoclfddamlcaaa
open Go.RowKit
theorem ext_cut (s : ByteArray) (a n : Nat) : (s.extract a (a + n)).data.toList.take n = cut9 s a n := by
  unfold cut9
  rw [extract_list, Nat.add_sub_cancel_left, List.take_take, Nat.min_self]
theorem ext_size (s : ByteArray) (a n : Nat) (h : a + n ≤ s.size) : (s.extract a (a + n)).size = n := by
  rw [ByteArray.size_extract]; omega
section
variable {w : World} {g : Nat} {x : A9}
theorem copy9_m (h : Has w g 31 x.c) (hx : x.Fit) (s : ByteArray) (a : Nat) (ha : a + 6 ≤ s.size) :
    (Builtin.copy_ #[53, 9] 3 #[.slice (some ⟨g, 1, none⟩) 6 6, .string (s.extract a (a + 6))]).run Try.prog w = .ok (.int .i64 6) (w.setRow g (A9.c { x with m := cut9 s a 6 })) := by
  rw [copy_in h 1 6 (by rw [A9.size hx]; omega) _ (by rw [ext_size s a 6 ha]; omega), ext_cut, A9.set_m hx]
  rfl
theorem copy9_i (h : Has w g 31 x.c) (hx : x.Fit) (s : ByteArray) (a : Nat) (ha : a + 4 ≤ s.size) :
    (Builtin.copy_ #[53, 9] 3 #[.slice (some ⟨g, 13, none⟩) 4 4, .string (s.extract a (a + 4))]).run Try.prog w = .ok (.int .i64 4) (w.setRow g (A9.c { x with i := cut9 s a 4 })) := by
  rw [copy_in h 13 4 (by rw [A9.size hx]; omega) _ (by rw [ext_size s a 4 ha]; omega), ext_cut, A9.set_i hx]
  rfl
theorem copy9_t (h : Has w g 31 x.c) (hx : x.Fit) (s : ByteArray) (a : Nat) (ha : a + 6 ≤ s.size) :
    (Builtin.copy_ #[53, 9] 3 #[.slice (some ⟨g, 7, none⟩) 6 6, .string (s.extract a (a + 6))]).run Try.prog w = .ok (.int .i64 6) (w.setRow g (A9.c { x with t := cut9 s a 6 })) := by
  rw [copy_in h 7 6 (by rw [A9.size hx]; omega) _ (by rw [ext_size s a 6 ha]; omega), ext_cut, A9.set_t hx]
  rfl
theorem copy9_w (h : Has w g 31 x.c) (hx : x.Fit) (s : ByteArray) (a : Nat) (ha : a + 4 ≤ s.size) :
    (Builtin.copy_ #[53, 9] 3 #[.slice (some ⟨g, 17, none⟩) 4 4, .string (s.extract a (a + 4))]).run Try.prog w = .ok (.int .i64 4) (w.setRow g (A9.c { x with w := cut9 s a 4 })) := by
  rw [copy_in h 17 4 (by rw [A9.size hx]; omega) _ (by rw [ext_size s a 4 ha]; omega), ext_cut, A9.set_w hx]
  rfl
end
set_option maxRecDepth 20000 in
set_option maxHeartbeats 2000000 in
theorem parse9_ok (s : ByteArray) (h : 28 ≤ s.size) (hh : cut9 s 0 6 = headL) (hr : rightO (wd s 6) = true) (w : World) : Calls Try.prog 10 #[.string s] w fun e w' => e = .returned (.tuple #[.agg (body9 s).c, .int .i64 0]) ∧ Below w.heap.size w w' := by
  have hmf : ∀ (fn : Fn) (first cap : Array Value) (w : World), (Instr.makeFunc fn first cap).run Try.prog w = .ok (.func fn first cap) w := fun _ _ _ _ => rfl
  have M : Mem w [(w.heap.size, 9, #[.string s]), (w.heap.size + 1, 31, az.c)] ((w.alloc (.cells #[.string s] 9)).alloc (.cells az.c 31)) :=
    ((Mem.init w).alloc _ rfl _ _).alloc _ (by simp) _ _
  have h28 : ¬ (s.size : Int) < 28 := by omega
  have hq := fun W => head_any W
  have HQ := Lib.hid hq
  clear hq
  have hne : ((s.extract 0 (0 + 6)).toList == headL) = true := by
    rw [ByteArray.toList_eq, extract_list, beq_iff_eq]
    exact hh
  have hnum := fun W => numberIn_any (s.extract 6 (6 + 2)) (by rw [ByteArray.size_extract]; omega) W
  rw [show (s.extract 6 (6 + 2)).size = 2 from by rw [ByteArray.size_extract]; omega, numP_two] at hnum
  have hop := fun W => rightOp_any (wd s 6) W
  rw [hr] at hop
  have hbody : body9 s = ⟨(wd s 6 : Int), cut9 s 8 6, cut9 s 18 6, cut9 s 14 4, cut9 s 24 4⟩ := rfl
  have hlm := cut9_length s 8 6 (by omega)
  have hli := cut9_length s 14 4 (by omega)
  have hlt := cut9_length s 18 6 (by omega)
  have hlw := cut9_length s 24 4 (by omega)
  generalize wd s 6 = K at hnum hop hbody
  rw [hbody]
  have HN := Lib.hid hnum
  have HO := Lib.hid hop
  clear hnum hop hr hbody
  go_enter Try.func10, Try.ntmps10
  go_upto_region 1 with fail
  change Code.wp _ _ _ _ ((w.alloc (.cells #[.string s] 9)).alloc (.cells az.c 31))
  generalize (w.alloc (.cells #[.string s] 9)).alloc (.cells az.c 31) = W0 at M ⊢
  have c0 := (M.row 0 rfl).cell 0
  go_upto_region 3 with fail
  clear c0
  replace M := M.alloc _ rfl 3 #[.int .i64 0]
  simp only [List.cons_append, List.nil_append] at M
  go_upto_region 5 with fail
  change Code.wp _ _ _ _ (W0.alloc (.cells #[.int .i64 0] 3))
  generalize W0.alloc (.cells #[.int .i64 0] 3) = W1 at M ⊢
  generalize W0.heap.size = g at M ⊢
  go_wp2_with fail
  refine (take_any s 0 6 (by omega) (by omega) (by omega) M 0 2 rfl rfl (by omega)).mono ?_
  rintro e w1 ⟨rfl, M1⟩
  simp only [List.set_cons_zero, List.set_cons_succ] at M1
  clear M
  generalize s.extract 0 (0 + 6) = E at hne ⊢
  go_wp2_with fail
  refine (HQ.out _).mono ?_
  rintro e w2 ⟨rfl, hb2⟩
  replace M1 := M1.step hb2
  clear hb2
  go_wp2_with fail
  refine (take_any s 6 2 (by omega) (by omega) (by omega) M1 0 2 rfl rfl (by omega)).mono ?_
  rintro e w3 ⟨rfl, M3⟩
  simp only [List.set_cons_zero, List.set_cons_succ] at M3
  clear M1 hne
  generalize s.extract 6 (6 + 2) = F at HN ⊢
  go_wp2_with fail
  refine (HN.out _).mono ?_
  rintro e w4 ⟨rfl, rfl⟩
  replace M := M3.alloc _ rfl 31 az.c
  simp only [List.cons_append, List.nil_append] at M
  have r3 := M.row 3 rfl
  have x0 : (A9.mk (K : Int) o6 o6 o4 o4).Fit := ⟨rfl, rfl, rfl, rfl⟩
  replace M := M.store 3 rfl (A9.mk (K : Int) o6 o6 o4 o4).c
  simp only [List.set_cons_zero, List.set_cons_succ] at M
  have HM := Lib.hid M
  clear M M3
  go_upto_region 11 with (first
    | (refine wpList_store_row rfl 31 (.tmp 8) (.tmp 30) rfl w5.heap.size (A9.mk (K : Int) o6 o6 o4 o4).c rfl rfl 31 az.c r3 (a9_info x0) rfl (A9.one _) ?_)
    | (go_at_call 17; refine (HO.out _).mono ?_; rintro e w5 ⟨rfl, rfl⟩))
  change Code.wp _ _ _ _ ((w5.alloc (.cells az.c 31)).setRow w5.heap.size (A9.mk (K : Int) o6 o6 o4 o4).c)
  have M := HM.out
  clear r3 HM
  generalize (w5.alloc (.cells az.c 31)).setRow w5.heap.size (A9.mk (K : Int) o6 o6 o4 o4).c = W5 at M ⊢
  generalize w5.heap.size = g3 at M ⊢
  refine wp_region_noPanic ?_
  refine wp_region_held_drew (S := fun _ => True) (by kernel_rfl) trivial (fun hS => ?_)
  refine take1 hS 0 31 (.pointer (some ⟨g3, 1, none⟩)) _ rfl (by kernel_rfl) (by kernel_rfl) (by kernel_rfl) (fun _ _ _ h => h) rfl rfl (fun w' h => by go_simp) ?_
  simp only [Act.put, List.setIfInBounds_toArray, List.set_cons_zero, List.set_cons_succ]
  refine take1 hS 1 32 (.slice (some ⟨g3, 1, none⟩) 6 6) _ rfl (by kernel_rfl) (by kernel_rfl) (by kernel_rfl) (fun _ _ _ h => h) rfl rfl (fun w' h => by go_simp) ?_
  simp only [Act.put, List.setIfInBounds_toArray, List.set_cons_zero, List.set_cons_succ]
  refine take1 hS 2 33 (.func (Fn.func 20) #[] #[.pointer (some ⟨g, 0, none⟩), .pointer (some ⟨w.heap.size, 0, none⟩)]) _ rfl (by kernel_rfl) (by kernel_rfl) (by kernel_rfl) (fun _ _ _ h => h) rfl rfl (fun w' h => by go_simp) ?_
  simp only [Act.put, List.setIfInBounds_toArray, List.set_cons_zero, List.set_cons_succ]
  have hcall := take_any s 8 6 (by omega) (by omega) (by omega) M.drew 0 2 rfl rfl (by omega)
  refine onlyCall 3 34 _ _ _ (by kernel_rfl) rfl rfl rfl (by go_simp) hcall ?_
  rintro e V6 ⟨rfl, M'⟩
  refine ⟨_, rfl, trivial, ?_⟩
  simp only [Act.put, List.setIfInBounds_toArray, List.set_cons_zero, List.set_cons_succ]
  simp only [List.set_cons_zero, List.set_cons_succ] at M'
  clear hcall M
  have hcp := copy9_m (x := (A9.mk (K : Int) o6 o6 o4 o4)) (M'.row 3 rfl) x0 s 8 (by omega)
  have x6 : (A9.mk (K : Int) (cut9 s 8 6) o6 o4 o4).Fit := ⟨hlm, rfl, rfl, rfl⟩
  have M := M'.store 3 rfl (A9.mk (K : Int) (cut9 s 8 6) o6 o4 o4).c
  simp only [List.set_cons_zero, List.set_cons_succ] at M
  clear M'
  refine onlyVal 4 35 (.int .i64 6) (V6.setRow g3 (A9.mk (K : Int) (cut9 s 8 6) o6 o4 o4).c) _ (by kernel_rfl) rfl rfl rfl (by go_simp) trivial ?_
  simp only [Act.put, List.setIfInBounds_toArray, List.set_cons_zero, List.set_cons_succ]
  refine wpAnyH_done (by kernel_rfl) ?_ _
  refine NoPanic.normal ?_
  clear hcp hS
  generalize V6.setRow g3 (A9.mk (K : Int) (cut9 s 8 6) o6 o4 o4).c = W6 at M ⊢
  go_upto_region 12 with fail
  refine wp_region_noPanic ?_
  refine wp_region_held_drew (S := fun _ => True) (by kernel_rfl) trivial (fun hS => ?_)
  refine take1 hS 0 36 (.pointer (some ⟨g3, 13, none⟩)) _ rfl (by kernel_rfl) (by kernel_rfl) (by kernel_rfl) (fun _ _ _ h => h) rfl rfl (fun w' h => by go_simp) ?_
  simp only [Act.put, List.setIfInBounds_toArray, List.set_cons_zero, List.set_cons_succ]
  refine take1 hS 1 37 (.slice (some ⟨g3, 13, none⟩) 4 4) _ rfl (by kernel_rfl) (by kernel_rfl) (by kernel_rfl) (fun _ _ _ h => h) rfl rfl (fun w' h => by go_simp) ?_
  simp only [Act.put, List.setIfInBounds_toArray, List.set_cons_zero, List.set_cons_succ]
  refine take1 hS 2 38 (.func (Fn.func 20) #[] #[.pointer (some ⟨g, 0, none⟩), .pointer (some ⟨w.heap.size, 0, none⟩)]) _ rfl (by kernel_rfl) (by kernel_rfl) (by kernel_rfl) (fun _ _ _ h => h) rfl rfl (fun w' h => by go_simp) ?_
  simp only [Act.put, List.setIfInBounds_toArray, List.set_cons_zero, List.set_cons_succ]
  have hcall := take_any s 14 4 (by omega) (by omega) (by omega) M.drew 0 2 rfl rfl (by omega)
  refine onlyCall 3 39 _ _ _ (by kernel_rfl) rfl rfl rfl (by go_simp) hcall ?_
  rintro e V7 ⟨rfl, M'⟩
  refine ⟨_, rfl, trivial, ?_⟩
  simp only [Act.put, List.setIfInBounds_toArray, List.set_cons_zero, List.set_cons_succ]
  simp only [List.set_cons_zero, List.set_cons_succ] at M'
  clear hcall M
  have hcp := copy9_i (x := (A9.mk (K : Int) (cut9 s 8 6) o6 o4 o4)) (M'.row 3 rfl) x6 s 14 (by omega)
  have x7 : (A9.mk (K : Int) (cut9 s 8 6) o6 (cut9 s 14 4) o4).Fit := ⟨hlm, rfl, hli, rfl⟩
  have M := M'.store 3 rfl (A9.mk (K : Int) (cut9 s 8 6) o6 (cut9 s 14 4) o4).c
  simp only [List.set_cons_zero, List.set_cons_succ] at M
  clear M'
  refine onlyVal 4 40 (.int .i64 4) (V7.setRow g3 (A9.mk (K : Int) (cut9 s 8 6) o6 (cut9 s 14 4) o4).c) _ (by kernel_rfl) rfl rfl rfl (by go_simp) trivial ?_
  simp only [Act.put, List.setIfInBounds_toArray, List.set_cons_zero, List.set_cons_succ]
  refine wpAnyH_done (by kernel_rfl) ?_ _
  refine NoPanic.normal ?_
  clear hcp hS
  generalize V7.setRow g3 (A9.mk (K : Int) (cut9 s 8 6) o6 (cut9 s 14 4) o4).c = W7 at M ⊢
  go_upto_region 13 with fail
  refine wp_region_noPanic ?_
  refine wp_region_held_drew (S := fun _ => True) (by kernel_rfl) trivial (fun hS => ?_)
  refine take1 hS 0 41 (.pointer (some ⟨g3, 7, none⟩)) _ rfl (by kernel_rfl) (by kernel_rfl) (by kernel_rfl) (fun _ _ _ h => h) rfl rfl (fun w' h => by go_simp) ?_
  simp only [Act.put, List.setIfInBounds_toArray, List.set_cons_zero, List.set_cons_succ]
  refine take1 hS 1 42 (.slice (some ⟨g3, 7, none⟩) 6 6) _ rfl (by kernel_rfl) (by kernel_rfl) (by kernel_rfl) (fun _ _ _ h => h) rfl rfl (fun w' h => by go_simp) ?_
  simp only [Act.put, List.setIfInBounds_toArray, List.set_cons_zero, List.set_cons_succ]
  refine take1 hS 2 43 (.func (Fn.func 20) #[] #[.pointer (some ⟨g, 0, none⟩), .pointer (some ⟨w.heap.size, 0, none⟩)]) _ rfl (by kernel_rfl) (by kernel_rfl) (by kernel_rfl) (fun _ _ _ h => h) rfl rfl (fun w' h => by go_simp) ?_
  simp only [Act.put, List.setIfInBounds_toArray, List.set_cons_zero, List.set_cons_succ]
  have hcall := take_any s 18 6 (by omega) (by omega) (by omega) M.drew 0 2 rfl rfl (by omega)
  refine onlyCall 3 44 _ _ _ (by kernel_rfl) rfl rfl rfl (by go_simp) hcall ?_
  rintro e V8 ⟨rfl, M'⟩
  refine ⟨_, rfl, trivial, ?_⟩
  simp only [Act.put, List.setIfInBounds_toArray, List.set_cons_zero, List.set_cons_succ]
  simp only [List.set_cons_zero, List.set_cons_succ] at M'
  clear hcall M
  have hcp := copy9_t (x := (A9.mk (K : Int) (cut9 s 8 6) o6 (cut9 s 14 4) o4)) (M'.row 3 rfl) x7 s 18 (by omega)
  have x8 : (A9.mk (K : Int) (cut9 s 8 6) (cut9 s 18 6) (cut9 s 14 4) o4).Fit := ⟨hlm, hlt, hli, rfl⟩
  have M := M'.store 3 rfl (A9.mk (K : Int) (cut9 s 8 6) (cut9 s 18 6) (cut9 s 14 4) o4).c
  simp only [List.set_cons_zero, List.set_cons_succ] at M
  clear M'
  refine onlyVal 4 45 (.int .i64 6) (V8.setRow g3 (A9.mk (K : Int) (cut9 s 8 6) (cut9 s 18 6) (cut9 s 14 4) o4).c) _ (by kernel_rfl) rfl rfl rfl (by go_simp) trivial ?_
  simp only [Act.put, List.setIfInBounds_toArray, List.set_cons_zero, List.set_cons_succ]
  refine wpAnyH_done (by kernel_rfl) ?_ _
  refine NoPanic.normal ?_
  clear hcp hS
  generalize V8.setRow g3 (A9.mk (K : Int) (cut9 s 8 6) (cut9 s 18 6) (cut9 s 14 4) o4).c = W8 at M ⊢
  go_upto_region 14 with fail
  refine wp_region_noPanic ?_
  refine wp_region_held_drew (S := fun _ => True) (by kernel_rfl) trivial (fun hS => ?_)
  refine take1 hS 0 46 (.pointer (some ⟨g3, 17, none⟩)) _ rfl (by kernel_rfl) (by kernel_rfl) (by kernel_rfl) (fun _ _ _ h => h) rfl rfl (fun w' h => by go_simp) ?_
  simp only [Act.put, List.setIfInBounds_toArray, List.set_cons_zero, List.set_cons_succ]
  refine take1 hS 1 47 (.slice (some ⟨g3, 17, none⟩) 4 4) _ rfl (by kernel_rfl) (by kernel_rfl) (by kernel_rfl) (fun _ _ _ h => h) rfl rfl (fun w' h => by go_simp) ?_
  simp only [Act.put, List.setIfInBounds_toArray, List.set_cons_zero, List.set_cons_succ]
  refine take1 hS 2 48 (.func (Fn.func 20) #[] #[.pointer (some ⟨g, 0, none⟩), .pointer (some ⟨w.heap.size, 0, none⟩)]) _ rfl (by kernel_rfl) (by kernel_rfl) (by kernel_rfl) (fun _ _ _ h => h) rfl rfl (fun w' h => by go_simp) ?_
  simp only [Act.put, List.setIfInBounds_toArray, List.set_cons_zero, List.set_cons_succ]
  have hcall := take_any s 24 4 (by omega) (by omega) (by omega) M.drew 0 2 rfl rfl (by omega)
  refine onlyCall 3 49 _ _ _ (by kernel_rfl) rfl rfl rfl (by go_simp) hcall ?_
  rintro e V9 ⟨rfl, M'⟩
  refine ⟨_, rfl, trivial, ?_⟩
  simp only [Act.put, List.setIfInBounds_toArray, List.set_cons_zero, List.set_cons_succ]
  simp only [List.set_cons_zero, List.set_cons_succ] at M'
  clear hcall M
  have hcp := copy9_w (x := (A9.mk (K : Int) (cut9 s 8 6) (cut9 s 18 6) (cut9 s 14 4) o4)) (M'.row 3 rfl) x8 s 24 (by omega)
  have x9 : (A9.mk (K : Int) (cut9 s 8 6) (cut9 s 18 6) (cut9 s 14 4) (cut9 s 24 4)).Fit := ⟨hlm, hlt, hli, hlw⟩
  have M := M'.store 3 rfl (A9.mk (K : Int) (cut9 s 8 6) (cut9 s 18 6) (cut9 s 14 4) (cut9 s 24 4)).c
  simp only [List.set_cons_zero, List.set_cons_succ] at M
  clear M'
  refine onlyVal 4 50 (.int .i64 4) (V9.setRow g3 (A9.mk (K : Int) (cut9 s 8 6) (cut9 s 18 6) (cut9 s 14 4) (cut9 s 24 4)).c) _ (by kernel_rfl) rfl rfl rfl (by go_simp) trivial ?_
  simp only [Act.put, List.setIfInBounds_toArray, List.set_cons_zero, List.set_cons_succ]
  refine wpAnyH_done (by kernel_rfl) ?_ _
  refine NoPanic.normal ?_
  clear hcp hS
  generalize V9.setRow g3 (A9.mk (K : Int) (cut9 s 8 6) (cut9 s 18 6) (cut9 s 14 4) (cut9 s 24 4)).c = W9 at M ⊢
  have r1 := M.row 1 rfl
  have r3 := M.row 3 rfl
  replace M := M.store 1 rfl (A9.mk (K : Int) (cut9 s 8 6) (cut9 s 18 6) (cut9 s 14 4) (cut9 s 24 4)).c
  simp only [List.set_cons_zero, List.set_cons_succ] at M
  have HM := Lib.hid M
  clear M
  go_wp2_with (first
    | (refine wpList_load_row rfl 31 (.tmp 8) rfl g3 rfl 31 (A9.mk (K : Int) (cut9 s 8 6) (cut9 s 18 6) (cut9 s 14 4) (cut9 s 24 4)).c (0, 0) _ r3 Try.underlying31 rfl (a9_info x9) ?_)
    | (refine wpList_store_row rfl 31 (.tmp 2) (.tmp 51) rfl (w.heap.size + 1) (A9.mk (K : Int) (cut9 s 8 6) (cut9 s 18 6) (cut9 s 14 4) (cut9 s 24 4)).c rfl rfl 31 az.c r1 (a9_info x9) (by rw [A9.size az_fit, A9.size x9]) (A9.one _) ?_))
  exact bodyPost_ret (v := .tuple #[.agg (A9.mk (K : Int) (cut9 s 8 6) (cut9 s 18 6) (cut9 s 14 4) (cut9 s 24 4)).c, .int .i64 0]) (results_row_reg rfl _ _ (w.heap.size + 1) 31 (A9.mk (K : Int) (cut9 s 8 6) (cut9 s 18 6) (cut9 s 14 4) (cut9 s 24 4)).c (0, 0) _ rfl (HM.out.row 1 rfl) Try.underlying31 rfl (a9_info x9) _ rfl) rfl ⟨rfl, HM.out.below⟩
/-- Parse, whatever the text -/
theorem parse9_any (s : ByteArray) (w : World) : Calls Try.prog 10 #[.string s] w fun e w' => e = .returned (.tuple #[.agg (parse9 s).2.c, .int .i64 (parse9 s).1]) ∧ Below w.heap.size w w' := by
  unfold parse9
  by_cases h : s.size < 28
  · rw [if_pos h]
    exact parse9_short s h w
  · rw [if_neg h]
    by_cases hh : cut9 s 0 6 = headL
    · rw [if_neg (fun e => e hh)]
      by_cases hr : rightO (wd s 6) = true
      · rw [if_pos hr]
        exact parse9_ok s (by omega) hh hr w
      · rw [if_neg hr]
        exact parse9_op s (by omega) hh (by simpa using hr) w
    · rw [if_pos hh]
      exact parse9_head s (by omega) hh w
end Go.Proofs.Ytaoclfddamlcaaa
