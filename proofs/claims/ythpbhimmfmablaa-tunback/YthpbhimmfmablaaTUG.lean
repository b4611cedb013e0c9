/- The law TunBack: walked. -/
import Derived.Test.YthpbhimmfmablaaTUF
import Derived.Test.YthpbhimmfmablaaMP
namespace Go.Proofs.Ythpbhimmfmablaa
open Go.RowKit
set_option maxRecDepth 20000 in
set_option maxHeartbeats 1000000 in
theorem tunBack_long (x : G12) (s : ByteArray) (h : 2000 < x.b.size ∨ 2000 < s.size) (w : World) : Calls Try.prog 3 #[.agg x.c, .string s] w fun e w' => e = .returned (.bool true) ∧ Below w.heap.size w w' := by
  have M : Mem w [(w.heap.size, 24, x.c)] (w.alloc (.cells x.c 24)) := (Mem.init w).alloc _ rfl _ _
  have AW := Lib.hid awake12_any
  by_cases h1 : 2000 < x.b.size
  · have t1 : (2000 : Int) < (x.b.size : Int) := by omega
    go_enter Try.func3, Try.ntmps3
    go_upto_region 1 with fail
    change Code.wp _ _ _ _ (w.alloc (.cells x.c 24))
    generalize w.alloc (.cells x.c 24) = W0 at M ⊢
    go_wp2_with fail
    refine (AW.out _).mono ?_
    rintro e w1 ⟨rfl, hb1⟩
    replace M := M.step hb1
    have c2 := (M.row 0 rfl).g_b
    have HM := Lib.hid M
    clear M hb1
    go_wp2_with fail
    refine (AW.out _).mono ?_
    rintro e w2 ⟨rfl, hb2⟩
    have HB := Lib.hid (HM.out.step hb2).below
    clear c2 hb2
    go_wp2
    go_ret
    exact ⟨rfl, HB.out⟩
  · have t1 : ¬ (2000 : Int) < (x.b.size : Int) := by omega
    have t2 : (2000 : Int) < (s.size : Int) := by omega
    go_enter Try.func3, Try.ntmps3
    go_upto_region 1 with fail
    change Code.wp _ _ _ _ (w.alloc (.cells x.c 24))
    generalize w.alloc (.cells x.c 24) = W0 at M ⊢
    go_wp2_with fail
    refine (AW.out _).mono ?_
    rintro e w1 ⟨rfl, hb1⟩
    replace M := M.step hb1
    have c2 := (M.row 0 rfl).g_b
    have HM := Lib.hid M
    clear M hb1
    go_wp2_with fail
    refine (AW.out _).mono ?_
    rintro e w2 ⟨rfl, hb2⟩
    have HB := Lib.hid (HM.out.step hb2).below
    clear c2 hb2
    go_wp2
    go_ret
    exact ⟨rfl, HB.out⟩
set_option maxRecDepth 20000 in
set_option maxHeartbeats 1000000 in
theorem tunBack_yy (x : G12) (hn : x.n < 18446744073709551616) (s : ByteArray) (h1 : x.b.size ≤ 2000) (h2 : s.size ≤ 2000) (hp : (print12 x).2 = 0) (hq : (parse12 s).1 = 0) (w : World) : Calls Try.prog 3 #[.agg x.c, .string s] w fun e w' => e = .returned (.bool true) ∧ Below w.heap.size w w' := by
  have M : Mem w [(w.heap.size, 24, x.c)] (w.alloc (.cells x.c 24)) := (Mem.init w).alloc _ rfl _ _
  have AW := Lib.hid awake12_any
  have t1 : ¬ (2000 : Int) < (x.b.size : Int) := by omega
  have t2 : ¬ (2000 : Int) < (s.size : Int) := by omega
  have cp := fun W => print12_any x hn (by omega) W
  have cq := fun W => parse12_any s (by omega) W
  have hpp := parse_print12 x hn hp
  have hps := print_size12 x
  have cpp := fun W => parse12_any (print12 x).1 (by omega) W
  rw [hpp] at cpp
  rw [hp] at cp
  generalize (print12 x).1 = t at *
  have hqq := print_parse12 s hq
  have cqq := fun W => print12_any (parse12 s).2 (parse_n12 s) (by have := parse_b12 s; omega) W
  rw [hqq] at cqq
  rw [hq] at cq
  obtain ⟨y, hy⟩ : ∃ y, (parse12 s).2 = y := ⟨_, rfl⟩
  rw [hy] at cq cqq
  obtain ⟨yk, yn, yb⟩ := y
  have CP := Lib.hid cp
  have CQ := Lib.hid cq
  clear cp cq
  have CPP := Lib.hid cpp
  clear cpp hpp hps
  have CQQ := Lib.hid cqq
  clear cqq hqq hy
  clear hp hq hn
  obtain ⟨k, n, b⟩ := x
  go_enter Try.func3, Try.ntmps3
  go_upto_region 1 with fail
  change Code.wp _ _ _ _ (w.alloc (.cells (G12.mk k n b).c 24))
  generalize w.alloc (.cells (G12.mk k n b).c 24) = W0 at M ⊢
  go_wp2_with fail
  refine (AW.out _).mono ?_
  rintro e w1 ⟨rfl, hb1⟩
  replace M := M.step hb1
  have c0 := (M.row 0 rfl).g_k
  have c1 := (M.row 0 rfl).g_n
  have c2 := (M.row 0 rfl).g_b
  have HM := Lib.hid M
  clear M hb1
  go_wp2_with fail
  refine (CP.out _).mono ?_
  rintro e w2 ⟨rfl, hb2⟩
  have M := HM.out.step hb2
  clear HM c0 c1 c2 hb2
  go_wp2_with fail
  refine (CPP.out _).mono ?_
  rintro e w3 ⟨rfl, hb3⟩
  replace M := M.step hb3
  replace M := M.alloc _ rfl 29 gz.c
  simp only [List.cons_append, List.nil_append] at M
  have r1 := M.row 1 rfl
  replace M := M.store 1 rfl (G12.mk k n b).c
  simp only [List.set_cons_zero, List.set_cons_succ] at M
  have HM := Lib.hid M
  clear M hb3
  go_upto_region 6 with (first
    | (refine wpList_store_row rfl 29 (.tmp 7) (.tmp 43) rfl w3.heap.size (G12.mk k n b).c rfl rfl 29 gz.c r1 g12_info rfl (G12.one _) ?_)
    | fail)
  clear r1
  have M := HM.out
  clear HM
  generalize hw4 : (w3.alloc (.cells gz.c 29)).setRow w3.heap.size (G12.mk k n b).c = w4 at M ⊢
  clear hw4
  have c0 := (M.row 0 rfl).g_k
  have c1 := (M.row 0 rfl).g_n
  have c2 := (M.row 0 rfl).g_b
  have d0 := (M.row 1 rfl).g_k
  have d1 := (M.row 1 rfl).g_n
  have d2 := (M.row 1 rfl).g_b
  have HM := Lib.hid M
  clear M
  go_upto_region 10 with fail
  have M := HM.out
  clear HM c0 c1 c2 d0 d1 d2
  go_wp2_with fail
  refine (CQ.out _).mono ?_
  rintro e w5 ⟨rfl, hb5⟩
  replace M := M.step hb5
  replace M := M.alloc _ rfl 29 gz.c
  simp only [List.cons_append, List.nil_append] at M
  have r1 := M.row 2 rfl
  replace M := M.store 2 rfl (G12.mk yk yn yb).c
  simp only [List.set_cons_zero, List.set_cons_succ] at M
  have HM := Lib.hid M
  clear M hb5
  go_upto_region 11 with (first
    | (refine wpList_store_row rfl 29 (.tmp 9) (.tmp 73) rfl w5.heap.size (G12.mk yk yn yb).c rfl rfl 29 gz.c r1 g12_info rfl (G12.one _) ?_)
    | fail)
  clear r1
  have M := HM.out
  clear HM
  generalize hw6 : (w5.alloc (.cells gz.c 29)).setRow w5.heap.size (G12.mk yk yn yb).c = w6 at M ⊢
  clear hw6
  have r1 := M.row 2 rfl
  have HM := Lib.hid M
  clear M
  go_wp2_with (first
    | (refine wpExec rfl (.agg (G12.mk yk yn yb).c) (exec_load_row 29 (.tmp 9) w5.heap.size r1 Try.underlying29 rfl g12_info rfl rfl) ?_)
    | fail)
  refine (CQQ.out _).mono ?_
  rintro e w7 ⟨rfl, hb7⟩
  have HB := Lib.hid (HM.out.step hb7).below
  clear HM r1 hb7
  go_wp2
  go_ret
  exact ⟨by simp, HB.out⟩
set_option maxRecDepth 20000 in
set_option maxHeartbeats 1000000 in
theorem tunBack_yn (x : G12) (hn : x.n < 18446744073709551616) (s : ByteArray) (h1 : x.b.size ≤ 2000) (h2 : s.size ≤ 2000) (hp : (print12 x).2 = 0) (hq : (parse12 s).1 ≠ 0) (w : World) : Calls Try.prog 3 #[.agg x.c, .string s] w fun e w' => e = .returned (.bool true) ∧ Below w.heap.size w w' := by
  have M : Mem w [(w.heap.size, 24, x.c)] (w.alloc (.cells x.c 24)) := (Mem.init w).alloc _ rfl _ _
  have AW := Lib.hid awake12_any
  have t1 : ¬ (2000 : Int) < (x.b.size : Int) := by omega
  have t2 : ¬ (2000 : Int) < (s.size : Int) := by omega
  have cp := fun W => print12_any x hn (by omega) W
  have cq := fun W => parse12_any s (by omega) W
  have hpp := parse_print12 x hn hp
  have hps := print_size12 x
  have cpp := fun W => parse12_any (print12 x).1 (by omega) W
  rw [hpp] at cpp
  rw [hp] at cp
  generalize (print12 x).1 = t at *
  rw [parse_no12 s hq] at cq
  have hq1 : ¬ (parse12 s).1 = 0 := hq
  generalize (parse12 s).1 = qe at *
  have CP := Lib.hid cp
  have CQ := Lib.hid cq
  clear cp cq
  have CPP := Lib.hid cpp
  clear cpp hpp hps
  clear hp hq hn
  obtain ⟨k, n, b⟩ := x
  go_enter Try.func3, Try.ntmps3
  go_upto_region 1 with fail
  change Code.wp _ _ _ _ (w.alloc (.cells (G12.mk k n b).c 24))
  generalize w.alloc (.cells (G12.mk k n b).c 24) = W0 at M ⊢
  go_wp2_with fail
  refine (AW.out _).mono ?_
  rintro e w1 ⟨rfl, hb1⟩
  replace M := M.step hb1
  have c0 := (M.row 0 rfl).g_k
  have c1 := (M.row 0 rfl).g_n
  have c2 := (M.row 0 rfl).g_b
  have HM := Lib.hid M
  clear M hb1
  go_wp2_with fail
  refine (CP.out _).mono ?_
  rintro e w2 ⟨rfl, hb2⟩
  have M := HM.out.step hb2
  clear HM c0 c1 c2 hb2
  go_wp2_with fail
  refine (CPP.out _).mono ?_
  rintro e w3 ⟨rfl, hb3⟩
  replace M := M.step hb3
  replace M := M.alloc _ rfl 29 gz.c
  simp only [List.cons_append, List.nil_append] at M
  have r1 := M.row 1 rfl
  replace M := M.store 1 rfl (G12.mk k n b).c
  simp only [List.set_cons_zero, List.set_cons_succ] at M
  have HM := Lib.hid M
  clear M hb3
  go_upto_region 6 with (first
    | (refine wpList_store_row rfl 29 (.tmp 7) (.tmp 43) rfl w3.heap.size (G12.mk k n b).c rfl rfl 29 gz.c r1 g12_info rfl (G12.one _) ?_)
    | fail)
  clear r1
  have M := HM.out
  clear HM
  generalize hw4 : (w3.alloc (.cells gz.c 29)).setRow w3.heap.size (G12.mk k n b).c = w4 at M ⊢
  clear hw4
  have c0 := (M.row 0 rfl).g_k
  have c1 := (M.row 0 rfl).g_n
  have c2 := (M.row 0 rfl).g_b
  have d0 := (M.row 1 rfl).g_k
  have d1 := (M.row 1 rfl).g_n
  have d2 := (M.row 1 rfl).g_b
  have HM := Lib.hid M
  clear M
  go_upto_region 10 with fail
  have M := HM.out
  clear HM c0 c1 c2 d0 d1 d2
  go_wp2_with fail
  refine (CQ.out _).mono ?_
  rintro e w5 ⟨rfl, hb5⟩
  replace M := M.step hb5
  replace M := M.alloc _ rfl 29 gz.c
  simp only [List.cons_append, List.nil_append] at M
  have r1 := M.row 2 rfl
  replace M := M.store 2 rfl gz.c
  simp only [List.set_cons_zero, List.set_cons_succ] at M
  have HM := Lib.hid M
  clear M hb5
  go_upto_region 11 with (first
    | (refine wpList_store_row rfl 29 (.tmp 9) (.tmp 73) rfl w5.heap.size gz.c rfl rfl 29 gz.c r1 g12_info rfl (G12.one _) ?_)
    | fail)
  clear r1
  have M := HM.out
  clear HM
  generalize hw6 : (w5.alloc (.cells gz.c 29)).setRow w5.heap.size gz.c = w6 at M ⊢
  clear hw6
  have r1 := M.row 2 rfl
  have HM := Lib.hid M
  clear M
  go_wp2_with (first
    | (refine wpExec rfl (.agg gz.c) (exec_load_row 29 (.tmp 9) w5.heap.size r1 Try.underlying29 rfl g12_info rfl rfl) ?_)
    | (refine wpExec rfl (.bool true) (exec_eql 29 (.tmp 77) (.tmp 78) _ _ true (by kernel_rfl) (by kernel_rfl) rfl rfl rfl) ?_))
  go_ret
  exact ⟨rfl, HM.out.below⟩
set_option maxRecDepth 20000 in
set_option maxHeartbeats 1000000 in
theorem tunBack_ny (x : G12) (hn : x.n < 18446744073709551616) (s : ByteArray) (h1 : x.b.size ≤ 2000) (h2 : s.size ≤ 2000) (hp : (print12 x).2 ≠ 0) (hq : (parse12 s).1 = 0) (w : World) : Calls Try.prog 3 #[.agg x.c, .string s] w fun e w' => e = .returned (.bool true) ∧ Below w.heap.size w w' := by
  have M : Mem w [(w.heap.size, 24, x.c)] (w.alloc (.cells x.c 24)) := (Mem.init w).alloc _ rfl _ _
  have AW := Lib.hid awake12_any
  have t1 : ¬ (2000 : Int) < (x.b.size : Int) := by omega
  have t2 : ¬ (2000 : Int) < (s.size : Int) := by omega
  have cp := fun W => print12_any x hn (by omega) W
  have cq := fun W => parse12_any s (by omega) W
  rw [print_no12 x hp] at cp
  have hqq := print_parse12 s hq
  have cqq := fun W => print12_any (parse12 s).2 (parse_n12 s) (by have := parse_b12 s; omega) W
  rw [hqq] at cqq
  rw [hq] at cq
  obtain ⟨y, hy⟩ : ∃ y, (parse12 s).2 = y := ⟨_, rfl⟩
  rw [hy] at cq cqq
  obtain ⟨yk, yn, yb⟩ := y
  have CP := Lib.hid cp
  have CQ := Lib.hid cq
  clear cp cq
  have CQQ := Lib.hid cqq
  clear cqq hqq hy
  clear hp hq hn
  obtain ⟨k, n, b⟩ := x
  go_enter Try.func3, Try.ntmps3
  go_upto_region 1 with fail
  change Code.wp _ _ _ _ (w.alloc (.cells (G12.mk k n b).c 24))
  generalize w.alloc (.cells (G12.mk k n b).c 24) = W0 at M ⊢
  go_wp2_with fail
  refine (AW.out _).mono ?_
  rintro e w1 ⟨rfl, hb1⟩
  replace M := M.step hb1
  have c0 := (M.row 0 rfl).g_k
  have c1 := (M.row 0 rfl).g_n
  have c2 := (M.row 0 rfl).g_b
  have HM := Lib.hid M
  clear M hb1
  go_wp2_with fail
  refine (CP.out _).mono ?_
  rintro e w2 ⟨rfl, hb2⟩
  have M := HM.out.step hb2
  clear HM c0 c1 c2 hb2
  go_wp2_with fail
  refine (CQ.out _).mono ?_
  rintro e w5 ⟨rfl, hb5⟩
  replace M := M.step hb5
  replace M := M.alloc _ rfl 29 gz.c
  simp only [List.cons_append, List.nil_append] at M
  have r1 := M.row 1 rfl
  replace M := M.store 1 rfl (G12.mk yk yn yb).c
  simp only [List.set_cons_zero, List.set_cons_succ] at M
  have HM := Lib.hid M
  clear M hb5
  go_upto_region 11 with (first
    | (refine wpList_store_row rfl 29 (.tmp 9) (.tmp 73) rfl w5.heap.size (G12.mk yk yn yb).c rfl rfl 29 gz.c r1 g12_info rfl (G12.one _) ?_)
    | fail)
  clear r1
  have M := HM.out
  clear HM
  generalize hw6 : (w5.alloc (.cells gz.c 29)).setRow w5.heap.size (G12.mk yk yn yb).c = w6 at M ⊢
  clear hw6
  have r1 := M.row 1 rfl
  have HM := Lib.hid M
  clear M
  go_wp2_with (first
    | (refine wpExec rfl (.agg (G12.mk yk yn yb).c) (exec_load_row 29 (.tmp 9) w5.heap.size r1 Try.underlying29 rfl g12_info rfl rfl) ?_)
    | fail)
  refine (CQQ.out _).mono ?_
  rintro e w7 ⟨rfl, hb7⟩
  have HB := Lib.hid (HM.out.step hb7).below
  clear HM r1 hb7
  go_wp2
  go_ret
  exact ⟨by simp, HB.out⟩
set_option maxRecDepth 20000 in
set_option maxHeartbeats 1000000 in
theorem tunBack_nn (x : G12) (hn : x.n < 18446744073709551616) (s : ByteArray) (h1 : x.b.size ≤ 2000) (h2 : s.size ≤ 2000) (hp : (print12 x).2 ≠ 0) (hq : (parse12 s).1 ≠ 0) (w : World) : Calls Try.prog 3 #[.agg x.c, .string s] w fun e w' => e = .returned (.bool true) ∧ Below w.heap.size w w' := by
  have M : Mem w [(w.heap.size, 24, x.c)] (w.alloc (.cells x.c 24)) := (Mem.init w).alloc _ rfl _ _
  have AW := Lib.hid awake12_any
  have t1 : ¬ (2000 : Int) < (x.b.size : Int) := by omega
  have t2 : ¬ (2000 : Int) < (s.size : Int) := by omega
  have cp := fun W => print12_any x hn (by omega) W
  have cq := fun W => parse12_any s (by omega) W
  rw [print_no12 x hp] at cp
  rw [parse_no12 s hq] at cq
  have hq1 : ¬ (parse12 s).1 = 0 := hq
  generalize (parse12 s).1 = qe at *
  have CP := Lib.hid cp
  have CQ := Lib.hid cq
  clear cp cq
  clear hp hq hn
  obtain ⟨k, n, b⟩ := x
  go_enter Try.func3, Try.ntmps3
  go_upto_region 1 with fail
  change Code.wp _ _ _ _ (w.alloc (.cells (G12.mk k n b).c 24))
  generalize w.alloc (.cells (G12.mk k n b).c 24) = W0 at M ⊢
  go_wp2_with fail
  refine (AW.out _).mono ?_
  rintro e w1 ⟨rfl, hb1⟩
  replace M := M.step hb1
  have c0 := (M.row 0 rfl).g_k
  have c1 := (M.row 0 rfl).g_n
  have c2 := (M.row 0 rfl).g_b
  have HM := Lib.hid M
  clear M hb1
  go_wp2_with fail
  refine (CP.out _).mono ?_
  rintro e w2 ⟨rfl, hb2⟩
  have M := HM.out.step hb2
  clear HM c0 c1 c2 hb2
  go_wp2_with fail
  refine (CQ.out _).mono ?_
  rintro e w5 ⟨rfl, hb5⟩
  replace M := M.step hb5
  replace M := M.alloc _ rfl 29 gz.c
  simp only [List.cons_append, List.nil_append] at M
  have r1 := M.row 1 rfl
  replace M := M.store 1 rfl gz.c
  simp only [List.set_cons_zero, List.set_cons_succ] at M
  have HM := Lib.hid M
  clear M hb5
  go_upto_region 11 with (first
    | (refine wpList_store_row rfl 29 (.tmp 9) (.tmp 73) rfl w5.heap.size gz.c rfl rfl 29 gz.c r1 g12_info rfl (G12.one _) ?_)
    | fail)
  clear r1
  have M := HM.out
  clear HM
  generalize hw6 : (w5.alloc (.cells gz.c 29)).setRow w5.heap.size gz.c = w6 at M ⊢
  clear hw6
  have r1 := M.row 1 rfl
  have HM := Lib.hid M
  clear M
  go_wp2_with (first
    | (refine wpExec rfl (.agg gz.c) (exec_load_row 29 (.tmp 9) w5.heap.size r1 Try.underlying29 rfl g12_info rfl rfl) ?_)
    | (refine wpExec rfl (.bool true) (exec_eql 29 (.tmp 77) (.tmp 78) _ _ true (by kernel_rfl) (by kernel_rfl) rfl rfl rfl) ?_))
  go_ret
  exact ⟨rfl, HM.out.below⟩
theorem tunBack_any (x : G12) (hn : x.n < 18446744073709551616) (s : ByteArray) (w : World) : Calls Try.prog 3 #[.agg x.c, .string s] w fun e w' => e = .returned (.bool true) ∧ Below w.heap.size w w' := by
  by_cases h1 : 2000 < x.b.size
  · exact tunBack_long x s (Or.inl h1) w
  by_cases h2 : 2000 < s.size
  · exact tunBack_long x s (Or.inr h2) w
  by_cases hp : (print12 x).2 = 0
  · by_cases hq : (parse12 s).1 = 0
    · exact tunBack_yy x hn s (by omega) (by omega) hp hq w
    · exact tunBack_yn x hn s (by omega) (by omega) hp hq w
  · by_cases hq : (parse12 s).1 = 0
    · exact tunBack_ny x hn s (by omega) (by omega) hp hq w
    · exact tunBack_nn x hn s (by omega) (by omega) hp hq w
end Go.Proofs.Ythpbhimmfmablaa
