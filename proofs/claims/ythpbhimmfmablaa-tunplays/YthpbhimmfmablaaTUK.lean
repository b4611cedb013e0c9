/- The law TunPlays: walked. -/
import Derived.Test.YthpbhimmfmablaaTUF
import Derived.Test.YthpbhimmfmablaaTUI
import Derived.Test.YthpbhimmfmablaaTUJ
import Derived.Test.YthpbhimmfmablaaMP
namespace Go.Proofs.Ythpbhimmfmablaa
open Go.RowKit
theorem exec_neqS {P : Program} {o : Oper} {ev : Operand → Value} {w : World} (p q : Operand) (a b : ByteArray) (r : Bool) (hr : (a.data.toList == b.data.toList) = r) (ho : o.op = .binOp .neq 9 p q 9) (hp : ev p = .string a) (hq : ev q = .string b) : (execOp ev o).run P w = .ok (.value (.bool (!r))) w := by
  rw [← ByteArray.toList_eq, ← ByteArray.toList_eq] at hr
  unfold execOp
  simp only [ho, hp, hq]
  go_simp
set_option maxRecDepth 20000 in
set_option maxHeartbeats 1000000 in
theorem tunPlays_long (x : G12) (s : ByteArray) (m : Nat) (h : 2000 < x.b.size ∨ 2000 < s.size) (w : World) : Calls Try.prog 6 #[.agg x.c, .string s, .int .u32 (m : Int)] w fun e w' => e = .returned (.bool true) ∧ Below w.heap.size w w' := by
  have M : Mem w [(w.heap.size, 24, x.c)] (w.alloc (.cells x.c 24)) := (Mem.init w).alloc _ rfl _ _
  have AW := Lib.hid awake12_any
  by_cases h1 : 2000 < x.b.size
  · have t1 : (2000 : Int) < (x.b.size : Int) := by omega
    go_enter Try.func6, Try.ntmps6
    go_upto_region 1 with fail
    change Code.wp _ _ _ _ (w.alloc (.cells x.c 24))
    generalize w.alloc (.cells x.c 24) = W0 at M ⊢
    go_wp2_with fail
    refine (AW.out _).mono ?_
    rintro e w1 ⟨rfl, hb1⟩
    replace M := M.step hb1
    have c2 := (M.row 0 rfl).g_b
    have HM := Lib.hid M
    clear M hb1
    go_wp2_with fail
    refine (AW.out _).mono ?_
    rintro e w2 ⟨rfl, hb2⟩
    have HB := Lib.hid (HM.out.step hb2).below
    clear c2 hb2
    go_wp2
    go_ret
    exact ⟨rfl, HB.out⟩
  · have t1 : ¬ (2000 : Int) < (x.b.size : Int) := by omega
    have t2 : (2000 : Int) < (s.size : Int) := by omega
    go_enter Try.func6, Try.ntmps6
    go_upto_region 1 with fail
    change Code.wp _ _ _ _ (w.alloc (.cells x.c 24))
    generalize w.alloc (.cells x.c 24) = W0 at M ⊢
    go_wp2_with fail
    refine (AW.out _).mono ?_
    rintro e w1 ⟨rfl, hb1⟩
    replace M := M.step hb1
    have c2 := (M.row 0 rfl).g_b
    have HM := Lib.hid M
    clear M hb1
    go_wp2_with fail
    refine (AW.out _).mono ?_
    rintro e w2 ⟨rfl, hb2⟩
    have HB := Lib.hid (HM.out.step hb2).below
    clear c2 hb2
    go_wp2
    go_ret
    exact ⟨rfl, HB.out⟩
set_option maxRecDepth 20000 in
set_option maxHeartbeats 1000000 in
theorem tunPlays_short (x : G12) (hn : x.n < 18446744073709551616) (s : ByteArray) (m : Nat) (h3 : s.size < 1 ∨ 1536 < s.size) (h1 : x.b.size ≤ 2000) (h2 : s.size ≤ 2000) (w : World) : Calls Try.prog 6 #[.agg x.c, .string s, .int .u32 (m : Int)] w fun e w' => e = .returned (.bool true) ∧ Below w.heap.size w w' := by
  have M : Mem w [(w.heap.size, 24, x.c)] (w.alloc (.cells x.c 24)) := (Mem.init w).alloc _ rfl _ _
  have AW := Lib.hid awake12_any
  have t1 : ¬ (2000 : Int) < (x.b.size : Int) := by omega
  have t2 : ¬ (2000 : Int) < (s.size : Int) := by omega
  have cp := fun W => print12_any x hn (by omega) W
  have rp := fun W => refPrint12_any x hn (by omega) W
  have cq := fun W => parse12_any s (by omega) W
  have rq := fun W => refParse12_any s (by omega) W
  obtain ⟨t, ht⟩ : ∃ t, (print12 x).1 = t := ⟨_, rfl⟩
  obtain ⟨f, hf⟩ : ∃ f, (print12 x).2 = f := ⟨_, rfl⟩
  obtain ⟨y, hy⟩ : ∃ y, (parse12 s).2 = y := ⟨_, rfl⟩
  obtain ⟨z, hz⟩ : ∃ z, (parse12 s).1 = z := ⟨_, rfl⟩
  rw [ht, hf] at cp rp
  rw [hy, hz] at cq rq
  have hf2 : f = 0 ∨ f = 3 := by
    rw [← hf]
    by_cases h : (print12 x).2 = 0
    · exact Or.inl h
    · right; rw [print_no12 x h]
  have CP := Lib.hid cp
  have RP := Lib.hid rp
  have CQ := Lib.hid cq
  have RQ := Lib.hid rq
  clear cp rp cq rq ht hf hy hz h1 h2
  obtain ⟨k, n, b⟩ := x
  obtain ⟨yk, yn, yb⟩ := y
  go_enter Try.func6, Try.ntmps6
  go_upto_region 1 with fail
  change Code.wp _ _ _ _ (w.alloc (.cells (G12.mk k n b).c 24))
  generalize w.alloc (.cells (G12.mk k n b).c 24) = W0 at M ⊢
  go_wp2_with fail
  refine (AW.out _).mono ?_
  rintro e w1 ⟨rfl, hb1⟩
  replace M := M.step hb1
  have c0 := (M.row 0 rfl).g_k
  have c1 := (M.row 0 rfl).g_n
  have c2 := (M.row 0 rfl).g_b
  have HM := Lib.hid M
  clear M hb1
  go_wp2_with fail
  refine (CP.out _).mono ?_
  rintro e w2 ⟨rfl, hb2⟩
  have M := HM.out.step hb2
  clear HM c0 c1 c2 hb2
  have r0 := M.row 0 rfl
  have HM := Lib.hid M
  clear M
  go_wp2_with (first
    | (refine wpExec rfl (.agg (G12.mk k n b).c) (exec_load_row 24 (.tmp 3) w.heap.size r0 Try.underlying24 rfl r12_info rfl rfl) ?_)
    | fail)
  refine (RP.out _).mono ?_
  rintro e w3 ⟨rfl, hb3⟩
  have M := HM.out.step hb3
  clear HM r0 hb3
  have hb : ∃ q : Bool, (f == 0) = q ∧ (f = 0 ∧ q = true ∨ f = 3 ∧ q = false) := by
    rcases hf2 with rfl | rfl
    · exact ⟨true, rfl, Or.inl ⟨rfl, rfl⟩⟩
    · exact ⟨false, rfl, Or.inr ⟨rfl, rfl⟩⟩
  obtain ⟨q, hq, hfq⟩ := hb
  rw [hq]
  clear hq hf2
  have key : ∀ (K : Prop), (f = 0 → q = true → K) → (f = 3 → q = false → K) → K := fun K k1 k2 => by
    rcases hfq with ⟨a, b⟩ | ⟨a, b⟩
    · exact k1 a b
    · exact k2 a b
  clear hfq
  refine key _ ?_ ?_
  · clear key
    intro hf hq
    subst hf
    subst hq
    go_wp2_with fail
    refine (CQ.out _).mono ?_
    rintro e w4 ⟨rfl, hb4⟩
    replace M := M.step hb4
    replace M := M.alloc _ rfl 29 gz.c
    simp only [List.cons_append, List.nil_append] at M
    have r1 := M.row 1 rfl
    replace M := M.store 1 rfl (G12.mk yk yn yb).c
    simp only [List.set_cons_zero, List.set_cons_succ] at M
    have HM := Lib.hid M
    clear M hb4
    go_upto_region 8 with (first
      | (refine wpList_store_row rfl 29 (.tmp 11) (.tmp 69) rfl w4.heap.size (G12.mk yk yn yb).c rfl rfl 29 gz.c r1 g12_info rfl (G12.one _) ?_)
      | fail)
    clear r1
    have M := HM.out
    clear HM
    generalize hw5 : (w4.alloc (.cells gz.c 29)).setRow w4.heap.size (G12.mk yk yn yb).c = w5 at M ⊢
    clear hw5
    go_wp2_with fail
    refine (RQ.out _).mono ?_
    rintro e w6 ⟨rfl, hb6⟩
    replace M := M.step hb6
    replace M := M.alloc _ rfl 24 gz.c
    simp only [List.cons_append, List.nil_append] at M
    have r1 := M.row 2 rfl
    replace M := M.store 2 rfl (G12.mk yk yn yb).c
    simp only [List.set_cons_zero, List.set_cons_succ] at M
    have HM := Lib.hid M
    clear M hb6
    go_upto_region 9 with (first
      | (refine wpList_store_row rfl 24 (.tmp 13) (.tmp 74) rfl w6.heap.size (G12.mk yk yn yb).c rfl rfl 24 gz.c r1 r12_info rfl (G12.one _) ?_)
      | fail)
    clear r1
    have M := HM.out
    clear HM
    generalize hw7 : (w6.alloc (.cells gz.c 24)).setRow w6.heap.size (G12.mk yk yn yb).c = w7 at M ⊢
    clear hw7
    have c0 := (M.row 1 rfl).g_k
    have c1 := (M.row 1 rfl).g_n
    have c2 := (M.row 1 rfl).g_b
    have d0 := (M.row 2 rfl).g_k
    have d1 := (M.row 2 rfl).g_n
    have d2 := (M.row 2 rfl).g_b
    have HM := Lib.hid M
    clear M
    go_upto_region 11 with fail
    clear c0 c1 c2 d0 d1 d2
    by_cases h4 : s.size < 1
    · have t4 : (s.size : Int) < 1 := by omega
      go_wp2
      go_ret
      exact ⟨rfl, HM.out.below⟩
    · have t4 : ¬ (s.size : Int) < 1 := by omega
      have t5 : (1536 : Int) < (s.size : Int) := by omega
      go_wp2
      go_ret
      exact ⟨rfl, HM.out.below⟩
  · clear key
    intro hf hq
    subst hf
    subst hq
    go_wp2_with fail
    refine (CQ.out _).mono ?_
    rintro e w4 ⟨rfl, hb4⟩
    replace M := M.step hb4
    replace M := M.alloc _ rfl 29 gz.c
    simp only [List.cons_append, List.nil_append] at M
    have r1 := M.row 1 rfl
    replace M := M.store 1 rfl (G12.mk yk yn yb).c
    simp only [List.set_cons_zero, List.set_cons_succ] at M
    have HM := Lib.hid M
    clear M hb4
    go_upto_region 8 with (first
      | (refine wpList_store_row rfl 29 (.tmp 11) (.tmp 69) rfl w4.heap.size (G12.mk yk yn yb).c rfl rfl 29 gz.c r1 g12_info rfl (G12.one _) ?_)
      | fail)
    clear r1
    have M := HM.out
    clear HM
    generalize hw5 : (w4.alloc (.cells gz.c 29)).setRow w4.heap.size (G12.mk yk yn yb).c = w5 at M ⊢
    clear hw5
    go_wp2_with fail
    refine (RQ.out _).mono ?_
    rintro e w6 ⟨rfl, hb6⟩
    replace M := M.step hb6
    replace M := M.alloc _ rfl 24 gz.c
    simp only [List.cons_append, List.nil_append] at M
    have r1 := M.row 2 rfl
    replace M := M.store 2 rfl (G12.mk yk yn yb).c
    simp only [List.set_cons_zero, List.set_cons_succ] at M
    have HM := Lib.hid M
    clear M hb6
    go_upto_region 9 with (first
      | (refine wpList_store_row rfl 24 (.tmp 13) (.tmp 74) rfl w6.heap.size (G12.mk yk yn yb).c rfl rfl 24 gz.c r1 r12_info rfl (G12.one _) ?_)
      | fail)
    clear r1
    have M := HM.out
    clear HM
    generalize hw7 : (w6.alloc (.cells gz.c 24)).setRow w6.heap.size (G12.mk yk yn yb).c = w7 at M ⊢
    clear hw7
    have c0 := (M.row 1 rfl).g_k
    have c1 := (M.row 1 rfl).g_n
    have c2 := (M.row 1 rfl).g_b
    have d0 := (M.row 2 rfl).g_k
    have d1 := (M.row 2 rfl).g_n
    have d2 := (M.row 2 rfl).g_b
    have HM := Lib.hid M
    clear M
    go_upto_region 11 with fail
    clear c0 c1 c2 d0 d1 d2
    by_cases h4 : s.size < 1
    · have t4 : (s.size : Int) < 1 := by omega
      go_wp2
      go_ret
      exact ⟨rfl, HM.out.below⟩
    · have t4 : ¬ (s.size : Int) < 1 := by omega
      have t5 : (1536 : Int) < (s.size : Int) := by omega
      go_wp2
      go_ret
      exact ⟨rfl, HM.out.below⟩
set_option maxRecDepth 20000 in
set_option maxHeartbeats 1000000 in
theorem tunPlays_cut (x : G12) (hn : x.n < 18446744073709551616) (s : ByteArray) (m : Nat) (hm : m < 4294967296) (h3 : 1 ≤ s.size) (h4 : s.size ≤ 1536) (h1 : x.b.size ≤ 2000) (w : World) : Calls Try.prog 6 #[.agg x.c, .string s, .int .u32 (m : Int)] w fun e w' => e = .returned (.bool true) ∧ Below w.heap.size w w' := by
  have M : Mem w [(w.heap.size, 24, x.c)] (w.alloc (.cells x.c 24)) := (Mem.init w).alloc _ rfl _ _
  have AW := Lib.hid awake12_any
  have t1 : ¬ (2000 : Int) < (x.b.size : Int) := by omega
  have t2 : ¬ (2000 : Int) < (s.size : Int) := by omega
  have cp := fun W => print12_any x hn (by omega) W
  have rp := fun W => refPrint12_any x hn (by omega) W
  have cq := fun W => parse12_any s (by omega) W
  have rq := fun W => refParse12_any s (by omega) W
  have t4 : ¬ (s.size : Int) < 1 := by omega
  have t5 : ¬ (1536 : Int) < (s.size : Int) := by omega
  have cc := fun W => cut_any m hm s h3 h4 W
  have rc := fun W => refCut_any m hm s h3 h4 W
  have hc1 : pieceN s.size ≤ 3 := by unfold pieceN; omega
  have hl := cutL_length m s
  generalize pieceN s.size = c at *
  generalize cutL m s = L at *
  have CC := Lib.hid cc
  have RC := Lib.hid rc
  have HL := Lib.hid hl
  clear cc rc hl
  obtain ⟨t, ht⟩ : ∃ t, (print12 x).1 = t := ⟨_, rfl⟩
  obtain ⟨f, hf⟩ : ∃ f, (print12 x).2 = f := ⟨_, rfl⟩
  obtain ⟨y, hy⟩ : ∃ y, (parse12 s).2 = y := ⟨_, rfl⟩
  obtain ⟨z, hz⟩ : ∃ z, (parse12 s).1 = z := ⟨_, rfl⟩
  rw [ht, hf] at cp rp
  rw [hy, hz] at cq rq
  have hf2 : f = 0 ∨ f = 3 := by
    rw [← hf]
    by_cases h : (print12 x).2 = 0
    · exact Or.inl h
    · right; rw [print_no12 x h]
  have CP := Lib.hid cp
  have RP := Lib.hid rp
  have CQ := Lib.hid cq
  have RQ := Lib.hid rq
  clear cp rp cq rq ht hf hy hz h1
  obtain ⟨k, n, b⟩ := x
  obtain ⟨yk, yn, yb⟩ := y
  go_enter Try.func6, Try.ntmps6
  go_upto_region 1 with fail
  change Code.wp _ _ _ _ (w.alloc (.cells (G12.mk k n b).c 24))
  generalize w.alloc (.cells (G12.mk k n b).c 24) = W0 at M ⊢
  go_wp2_with fail
  refine (AW.out _).mono ?_
  rintro e w1 ⟨rfl, hb1⟩
  replace M := M.step hb1
  have c0 := (M.row 0 rfl).g_k
  have c1 := (M.row 0 rfl).g_n
  have c2 := (M.row 0 rfl).g_b
  have HM := Lib.hid M
  clear M hb1
  go_wp2_with fail
  refine (CP.out _).mono ?_
  rintro e w2 ⟨rfl, hb2⟩
  have M := HM.out.step hb2
  clear HM c0 c1 c2 hb2
  have r0 := M.row 0 rfl
  have HM := Lib.hid M
  clear M
  go_wp2_with (first
    | (refine wpExec rfl (.agg (G12.mk k n b).c) (exec_load_row 24 (.tmp 3) w.heap.size r0 Try.underlying24 rfl r12_info rfl rfl) ?_)
    | fail)
  refine (RP.out _).mono ?_
  rintro e w3 ⟨rfl, hb3⟩
  have M := HM.out.step hb3
  clear HM r0 hb3
  have hb : ∃ q : Bool, (f == 0) = q ∧ (f = 0 ∧ q = true ∨ f = 3 ∧ q = false) := by
    rcases hf2 with rfl | rfl
    · exact ⟨true, rfl, Or.inl ⟨rfl, rfl⟩⟩
    · exact ⟨false, rfl, Or.inr ⟨rfl, rfl⟩⟩
  obtain ⟨q, hq, hfq⟩ := hb
  rw [hq]
  clear hq hf2
  have key : ∀ (K : Prop), (f = 0 → q = true → K) → (f = 3 → q = false → K) → K := fun K k1 k2 => by
    rcases hfq with ⟨a, b⟩ | ⟨a, b⟩
    · exact k1 a b
    · exact k2 a b
  clear hfq
  refine key _ ?_ ?_
  · clear key
    intro hf hq
    subst hf
    subst hq
    go_wp2_with fail
    refine (CQ.out _).mono ?_
    rintro e w4 ⟨rfl, hb4⟩
    replace M := M.step hb4
    replace M := M.alloc _ rfl 29 gz.c
    simp only [List.cons_append, List.nil_append] at M
    have r1 := M.row 1 rfl
    replace M := M.store 1 rfl (G12.mk yk yn yb).c
    simp only [List.set_cons_zero, List.set_cons_succ] at M
    have HM := Lib.hid M
    clear M hb4
    go_upto_region 8 with (first
      | (refine wpList_store_row rfl 29 (.tmp 11) (.tmp 69) rfl w4.heap.size (G12.mk yk yn yb).c rfl rfl 29 gz.c r1 g12_info rfl (G12.one _) ?_)
      | fail)
    clear r1
    have M := HM.out
    clear HM
    generalize hw5 : (w4.alloc (.cells gz.c 29)).setRow w4.heap.size (G12.mk yk yn yb).c = w5 at M ⊢
    clear hw5
    go_wp2_with fail
    refine (RQ.out _).mono ?_
    rintro e w6 ⟨rfl, hb6⟩
    replace M := M.step hb6
    replace M := M.alloc _ rfl 24 gz.c
    simp only [List.cons_append, List.nil_append] at M
    have r1 := M.row 2 rfl
    replace M := M.store 2 rfl (G12.mk yk yn yb).c
    simp only [List.set_cons_zero, List.set_cons_succ] at M
    have HM := Lib.hid M
    clear M hb6
    go_upto_region 9 with (first
      | (refine wpList_store_row rfl 24 (.tmp 13) (.tmp 74) rfl w6.heap.size (G12.mk yk yn yb).c rfl rfl 24 gz.c r1 r12_info rfl (G12.one _) ?_)
      | fail)
    clear r1
    have M := HM.out
    clear HM
    generalize hw7 : (w6.alloc (.cells gz.c 24)).setRow w6.heap.size (G12.mk yk yn yb).c = w7 at M ⊢
    clear hw7
    have c0 := (M.row 1 rfl).g_k
    have c1 := (M.row 1 rfl).g_n
    have c2 := (M.row 1 rfl).g_b
    have d0 := (M.row 2 rfl).g_k
    have d1 := (M.row 2 rfl).g_n
    have d2 := (M.row 2 rfl).g_b
    have HM := Lib.hid M
    clear M
    go_upto_region 11 with fail
    clear c0 c1 c2 d0 d1 d2
    go_wp2_with fail
    refine (CC.out _).mono ?_
    rintro e w8 ⟨rfl, hb8, hh8⟩
    have M := HM.out.step hb8
    have hlt8 := hh8.lt
    have HM := Lib.hid M
    clear M hb8
    go_wp2_with fail
    refine (RC.out _).mono ?_
    rintro e w9 ⟨g, cap, rfl, hb9, hg9, hcell⟩
    have M := HM.out.step hb9
    have hh9 := hh8.below hb9 hlt8
    have HC := Lib.hid hcell
    have HH := Lib.hid hh9
    have HM := Lib.hid M
    clear M hb9 hcell hh9 hh8
    go_wp2
    go_loopw [18] (fun i wr => ∃ j : Nat, j ≤ c ∧ i = .int .i64 (j : Int) ∧ Mem w [(w.heap.size, 24, (G12.mk k n b).c), (w4.heap.size, 29, (G12.mk yk yn yb).c), (w6.heap.size, 24, (G12.mk yk yn yb).c)] wr ∧ Below w9.heap.size w9 wr) (fun i _ => c - (intOf i).toNat)
    case atStart => exact ⟨0, by omega, rfl, HM.out, Below.refl _ _⟩
    case round =>
      obtain ⟨j, hj, rfl, hMW, hBW⟩ := hrel
      have HMW := Lib.hid hMW
      clear hMW
      by_cases hlt : j < c
      · have t6 : decide ((j : Int) < (c : Int)) = true := by simp; omega
        have t7 : (j : Int) < (c : Int) := by omega
        have k1 := (hBW.cell (p := ⟨w7.heap.size, j, none⟩) HH.out.lt).trans (HH.out.text j (by rw [HL.out]; exact hlt))
        have hgl : g < w9.heap.size := block_lt_of_cell (HC.out j hlt)
        have k2 := (hBW.cell (p := ⟨g, j, none⟩) hgl).trans (HC.out j hlt)
        generalize L.getD j ⟨#[]⟩ = piece at k1 k2
        go_upto_region 18 with fail
        refine wp_region_noPanic ?_
        refine wp_region_flow (fin := ?fin1) 16 0 (by kernel_rfl) [.inl (.slice (some ⟨w7.heap.size, 0, none⟩) c c),
          .inl (.int .i64 (c : Int)),
          .inl (.slice (some ⟨g, 0, none⟩) c cap),
          .inl (.int .i64 (c : Int)),
          .inl (.bool false),
          .inl (.bool false),
          .inl (.slice (some ⟨w7.heap.size, 0, none⟩) c c),
          .inl (.int .i64 (j : Int)),
          .inl (.pointer (some ⟨w7.heap.size, j, none⟩)),
          .inl (.string piece),
          .inl (.slice (some ⟨g, 0, none⟩) c cap),
          .inl (.int .i64 (j : Int)),
          .inl (.pointer (some ⟨g, j, none⟩)),
          .inl (.string piece),
          .inl (.bool false),
          .inl (.bool false)] rfl rfl (by kernel_rfl) ?hfin1 ?hE1 ?hend1
        case hfin1 =>
          intro G
          simp only [flowAll, flowVal, Act.put, List.setIfInBounds_toArray, List.set_cons_zero, List.set_cons_succ]
          exact rfl
        case hE1 =>
          intro G
          refine ⟨Or.inr (fun W hB hR => known_val rfl (by go_simp)),
            Or.inr (fun W hB hR => known_val rfl (by go_simp)),
            Or.inr (fun W hB hR => known_val rfl (by go_simp)),
            Or.inr (fun W hB hR => known_val rfl (by go_simp)),
            Or.inr (fun W hB hR => known_val rfl (by go_simp)),
            Or.inr (fun W hB hR => known_val rfl (by go_simp)),
            Or.inr (fun W hB hR => known_val rfl (by go_simp)),
            Or.inr (fun W hB hR => known_val rfl (by go_simp)),
            Or.inr (fun W hB hR => known_val rfl (by go_simp)),
            Or.inr (fun W hB hR => known_val rfl (by have k3 := (hB.cell (p := ⟨w7.heap.size, j, none⟩) (by show w7.heap.size < wr.heap.size; exact Nat.lt_of_lt_of_le HH.out.lt hBW.size)).trans k1; go_simp)),
            Or.inr (fun W hB hR => known_val rfl (by go_simp)),
            Or.inr (fun W hB hR => known_val rfl (by go_simp)),
            Or.inr (fun W hB hR => known_val rfl (by go_simp)),
            Or.inr (fun W hB hR => known_val rfl (by have k3 := (hB.cell (p := ⟨g, j, none⟩) (by show g < wr.heap.size; exact Nat.lt_of_lt_of_le hgl hBW.size)).trans k2; go_simp)),
            Or.inr (fun W hB hR => known_val rfl (by exact exec_neqS _ _ piece piece true (by simp) rfl rfl rfl)),
            Or.inr (fun W hB hR => known_val rfl (by go_simp)), trivial⟩
        intro G W hB hM
        have HB := Lib.hid hB
        clear hB hM k1 k2
        refine wpAny_end (by kernel_rfl) ?_ _
        refine NoPanic.normal ?_
        go_wp2
        go_roundw
        case rel => exact ⟨j + 1, by omega, by go_num, HMW.out.drew.step HB.out, hBW.drew.trans (HB.out.mono hBW.size)⟩
        case measure => simp [intOf]; omega
      · have hj2 : j = c := by omega
        subst hj2
        have t6 : decide ((j : Int) < (j : Int)) = false := by simp
        have HB := Lib.hid HMW.out.below
        clear hlt HMW
        go_wp2_with (go_at_call 17; refine (idle_any _).mono ?_; rintro e w' ⟨rfl, rfl⟩)
        go_ret
        exact ⟨rfl, HB.out⟩
  · clear key
    intro hf hq
    subst hf
    subst hq
    go_wp2_with fail
    refine (CQ.out _).mono ?_
    rintro e w4 ⟨rfl, hb4⟩
    replace M := M.step hb4
    replace M := M.alloc _ rfl 29 gz.c
    simp only [List.cons_append, List.nil_append] at M
    have r1 := M.row 1 rfl
    replace M := M.store 1 rfl (G12.mk yk yn yb).c
    simp only [List.set_cons_zero, List.set_cons_succ] at M
    have HM := Lib.hid M
    clear M hb4
    go_upto_region 8 with (first
      | (refine wpList_store_row rfl 29 (.tmp 11) (.tmp 69) rfl w4.heap.size (G12.mk yk yn yb).c rfl rfl 29 gz.c r1 g12_info rfl (G12.one _) ?_)
      | fail)
    clear r1
    have M := HM.out
    clear HM
    generalize hw5 : (w4.alloc (.cells gz.c 29)).setRow w4.heap.size (G12.mk yk yn yb).c = w5 at M ⊢
    clear hw5
    go_wp2_with fail
    refine (RQ.out _).mono ?_
    rintro e w6 ⟨rfl, hb6⟩
    replace M := M.step hb6
    replace M := M.alloc _ rfl 24 gz.c
    simp only [List.cons_append, List.nil_append] at M
    have r1 := M.row 2 rfl
    replace M := M.store 2 rfl (G12.mk yk yn yb).c
    simp only [List.set_cons_zero, List.set_cons_succ] at M
    have HM := Lib.hid M
    clear M hb6
    go_upto_region 9 with (first
      | (refine wpList_store_row rfl 24 (.tmp 13) (.tmp 74) rfl w6.heap.size (G12.mk yk yn yb).c rfl rfl 24 gz.c r1 r12_info rfl (G12.one _) ?_)
      | fail)
    clear r1
    have M := HM.out
    clear HM
    generalize hw7 : (w6.alloc (.cells gz.c 24)).setRow w6.heap.size (G12.mk yk yn yb).c = w7 at M ⊢
    clear hw7
    have c0 := (M.row 1 rfl).g_k
    have c1 := (M.row 1 rfl).g_n
    have c2 := (M.row 1 rfl).g_b
    have d0 := (M.row 2 rfl).g_k
    have d1 := (M.row 2 rfl).g_n
    have d2 := (M.row 2 rfl).g_b
    have HM := Lib.hid M
    clear M
    go_upto_region 11 with fail
    clear c0 c1 c2 d0 d1 d2
    go_wp2_with fail
    refine (CC.out _).mono ?_
    rintro e w8 ⟨rfl, hb8, hh8⟩
    have M := HM.out.step hb8
    have hlt8 := hh8.lt
    have HM := Lib.hid M
    clear M hb8
    go_wp2_with fail
    refine (RC.out _).mono ?_
    rintro e w9 ⟨g, cap, rfl, hb9, hg9, hcell⟩
    have M := HM.out.step hb9
    have hh9 := hh8.below hb9 hlt8
    have HC := Lib.hid hcell
    have HH := Lib.hid hh9
    have HM := Lib.hid M
    clear M hb9 hcell hh9 hh8
    go_wp2
    go_loopw [18] (fun i wr => ∃ j : Nat, j ≤ c ∧ i = .int .i64 (j : Int) ∧ Mem w [(w.heap.size, 24, (G12.mk k n b).c), (w4.heap.size, 29, (G12.mk yk yn yb).c), (w6.heap.size, 24, (G12.mk yk yn yb).c)] wr ∧ Below w9.heap.size w9 wr) (fun i _ => c - (intOf i).toNat)
    case atStart => exact ⟨0, by omega, rfl, HM.out, Below.refl _ _⟩
    case round =>
      obtain ⟨j, hj, rfl, hMW, hBW⟩ := hrel
      have HMW := Lib.hid hMW
      clear hMW
      by_cases hlt : j < c
      · have t6 : decide ((j : Int) < (c : Int)) = true := by simp; omega
        have t7 : (j : Int) < (c : Int) := by omega
        have k1 := (hBW.cell (p := ⟨w7.heap.size, j, none⟩) HH.out.lt).trans (HH.out.text j (by rw [HL.out]; exact hlt))
        have hgl : g < w9.heap.size := block_lt_of_cell (HC.out j hlt)
        have k2 := (hBW.cell (p := ⟨g, j, none⟩) hgl).trans (HC.out j hlt)
        generalize L.getD j ⟨#[]⟩ = piece at k1 k2
        go_upto_region 18 with fail
        refine wp_region_noPanic ?_
        refine wp_region_flow (fin := ?fin2) 16 0 (by kernel_rfl) [.inl (.slice (some ⟨w7.heap.size, 0, none⟩) c c),
          .inl (.int .i64 (c : Int)),
          .inl (.slice (some ⟨g, 0, none⟩) c cap),
          .inl (.int .i64 (c : Int)),
          .inl (.bool false),
          .inl (.bool false),
          .inl (.slice (some ⟨w7.heap.size, 0, none⟩) c c),
          .inl (.int .i64 (j : Int)),
          .inl (.pointer (some ⟨w7.heap.size, j, none⟩)),
          .inl (.string piece),
          .inl (.slice (some ⟨g, 0, none⟩) c cap),
          .inl (.int .i64 (j : Int)),
          .inl (.pointer (some ⟨g, j, none⟩)),
          .inl (.string piece),
          .inl (.bool false),
          .inl (.bool false)] rfl rfl (by kernel_rfl) ?hfin2 ?hE2 ?hend2
        case hfin2 =>
          intro G
          simp only [flowAll, flowVal, Act.put, List.setIfInBounds_toArray, List.set_cons_zero, List.set_cons_succ]
          exact rfl
        case hE2 =>
          intro G
          refine ⟨Or.inr (fun W hB hR => known_val rfl (by go_simp)),
            Or.inr (fun W hB hR => known_val rfl (by go_simp)),
            Or.inr (fun W hB hR => known_val rfl (by go_simp)),
            Or.inr (fun W hB hR => known_val rfl (by go_simp)),
            Or.inr (fun W hB hR => known_val rfl (by go_simp)),
            Or.inr (fun W hB hR => known_val rfl (by go_simp)),
            Or.inr (fun W hB hR => known_val rfl (by go_simp)),
            Or.inr (fun W hB hR => known_val rfl (by go_simp)),
            Or.inr (fun W hB hR => known_val rfl (by go_simp)),
            Or.inr (fun W hB hR => known_val rfl (by have k3 := (hB.cell (p := ⟨w7.heap.size, j, none⟩) (by show w7.heap.size < wr.heap.size; exact Nat.lt_of_lt_of_le HH.out.lt hBW.size)).trans k1; go_simp)),
            Or.inr (fun W hB hR => known_val rfl (by go_simp)),
            Or.inr (fun W hB hR => known_val rfl (by go_simp)),
            Or.inr (fun W hB hR => known_val rfl (by go_simp)),
            Or.inr (fun W hB hR => known_val rfl (by have k3 := (hB.cell (p := ⟨g, j, none⟩) (by show g < wr.heap.size; exact Nat.lt_of_lt_of_le hgl hBW.size)).trans k2; go_simp)),
            Or.inr (fun W hB hR => known_val rfl (by exact exec_neqS _ _ piece piece true (by simp) rfl rfl rfl)),
            Or.inr (fun W hB hR => known_val rfl (by go_simp)), trivial⟩
        intro G W hB hM
        have HB := Lib.hid hB
        clear hB hM k1 k2
        refine wpAny_end (by kernel_rfl) ?_ _
        refine NoPanic.normal ?_
        go_wp2
        go_roundw
        case rel => exact ⟨j + 1, by omega, by go_num, HMW.out.drew.step HB.out, hBW.drew.trans (HB.out.mono hBW.size)⟩
        case measure => simp [intOf]; omega
      · have hj2 : j = c := by omega
        subst hj2
        have t6 : decide ((j : Int) < (j : Int)) = false := by simp
        have HB := Lib.hid HMW.out.below
        clear hlt HMW
        go_wp2_with (go_at_call 17; refine (idle_any _).mono ?_; rintro e w' ⟨rfl, rfl⟩)
        go_ret
        exact ⟨rfl, HB.out⟩
theorem tunPlays_any (x : G12) (hn : x.n < 18446744073709551616) (s : ByteArray) (m : Nat) (hm : m < 4294967296) (w : World) : Calls Try.prog 6 #[.agg x.c, .string s, .int .u32 (m : Int)] w fun e w' => e = .returned (.bool true) ∧ Below w.heap.size w w' := by
  by_cases h1 : 2000 < x.b.size
  · exact tunPlays_long x s m (Or.inl h1) w
  by_cases h2 : 2000 < s.size
  · exact tunPlays_long x s m (Or.inr h2) w
  by_cases h3 : s.size < 1 ∨ 1536 < s.size
  · exact tunPlays_short x hn s m h3 (by omega) (by omega) w
  · exact tunPlays_cut x hn s m hm (by omega) (by omega) (by omega) w
end Go.Proofs.Ythpbhimmfmablaa
