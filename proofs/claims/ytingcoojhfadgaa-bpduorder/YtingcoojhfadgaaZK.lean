/- The law BpduOrder: walked. -/
import Derived.Test.YtingcoojhfadgaaZH
namespace Go.Proofs.Ytingcoojhfadgaa
open Go.RowKit
theorem id_info {l : List UInt8} (h : l.length = 8) : (Try.prog.info? 26).map (·.size) = some (bs l).size := by rw [bs_size, h]; kernel_rfl
set_option maxRecDepth 20000 in
set_option maxHeartbeats 2000000 in
theorem order11_A1 (a b c : List UInt8) (ha : a.length = 8) (hb : b.length = 8) (hc : c.length = 8) (h1 : lessL a b = true) (h2 : lessL b c = false) (w : World) : Calls Try.prog 5 #[.agg (bs a), .agg (bs b), .agg (bs c)] w fun e w' => e = .returned (.bool true) ∧ Below w.heap.size w w' := by
  have M : Mem w [(w.heap.size, 26, bs a), (w.heap.size + 1, 26, bs b), (w.heap.size + 1 + 1, 26, bs c)] (((w.alloc (.cells (bs a) 26)).alloc (.cells (bs b) 26)).alloc (.cells (bs c) 26)) :=
    (((Mem.init w).alloc _ rfl _ _).alloc _ (by simp) _ _).alloc _ (by simp) _ _
  have hk := fun W => awake11_any W
  have HK := Lib.hid hk
  clear hk
  have haa := fun W => less_any a a ha ha W
  rw [lessL_same a] at haa
  have HAA := Lib.hid haa
  clear haa
  have hab := fun W => less_any a b ha hb W
  rw [h1] at hab
  have HAB := Lib.hid hab
  clear hab
  have hba := fun W => less_any b a hb ha W
  rw [lessL_not a b h1] at hba
  have HBA := Lib.hid hba
  clear hba
  have hbc := fun W => less_any b c hb hc W
  rw [h2] at hbc
  have HBC := Lib.hid hbc
  clear hbc
  go_enter Try.func5, Try.ntmps5
  go_upto_region 1 with fail
  change Code.wp _ _ _ _ (((w.alloc (.cells (bs a) 26)).alloc (.cells (bs b) 26)).alloc (.cells (bs c) 26))
  generalize ((w.alloc (.cells (bs a) 26)).alloc (.cells (bs b) 26)).alloc (.cells (bs c) 26) = W0 at M ⊢
  obtain ⟨ga, hga⟩ : ∃ g, w.heap.size = g := ⟨_, rfl⟩
  obtain ⟨gb, hgb⟩ : ∃ g, w.heap.size + 1 = g := ⟨_, rfl⟩
  obtain ⟨gc, hgc⟩ : ∃ g, w.heap.size + 1 + 1 = g := ⟨_, rfl⟩
  rw [hgc, hgb, hga] at M ⊢
  clear hga hgb hgc
  go_wp2_with fail
  refine (HK.out _).mono ?_
  rintro e w1 ⟨rfl, hb1⟩
  replace M := M.step hb1
  clear hb1
  have r0 := M.row 0 rfl
  have r1 := M.row 1 rfl
  have r2 := M.row 2 rfl
  go_wp2_with (first
    | (refine wpList_load_rowG rfl 26 (.tmp 3) rfl ga rfl 26 (bs a) (0, 0) _ r0 Try.underlying26 rfl (id_info ha) ?_)
    | (refine wpList_load_rowG rfl 26 (.tmp 4) rfl gb rfl 26 (bs b) (0, 0) _ r1 Try.underlying26 rfl (id_info hb) ?_)
    | (refine wpList_load_rowG rfl 26 (.tmp 5) rfl gc rfl 26 (bs c) (0, 0) _ r2 Try.underlying26 rfl (id_info hc) ?_))
  refine (HAA.out _).mono ?_
  rintro e w2 ⟨rfl, hb2⟩
  replace M := M.step hb2
  clear hb2
  clear r0 r1 r2
  have r0 := M.row 0 rfl
  have r1 := M.row 1 rfl
  have r2 := M.row 2 rfl
  go_wp2_with (first
    | (refine wpList_load_rowG rfl 26 (.tmp 3) rfl ga rfl 26 (bs a) (0, 0) _ r0 Try.underlying26 rfl (id_info ha) ?_)
    | (refine wpList_load_rowG rfl 26 (.tmp 4) rfl gb rfl 26 (bs b) (0, 0) _ r1 Try.underlying26 rfl (id_info hb) ?_)
    | (refine wpList_load_rowG rfl 26 (.tmp 5) rfl gc rfl 26 (bs c) (0, 0) _ r2 Try.underlying26 rfl (id_info hc) ?_))
  refine (HAB.out _).mono ?_
  rintro e w3 ⟨rfl, hb3⟩
  replace M := M.step hb3
  clear hb3
  clear r0 r1 r2
  have r0 := M.row 0 rfl
  have r1 := M.row 1 rfl
  have r2 := M.row 2 rfl
  go_wp2_with (first
    | (refine wpList_load_rowG rfl 26 (.tmp 3) rfl ga rfl 26 (bs a) (0, 0) _ r0 Try.underlying26 rfl (id_info ha) ?_)
    | (refine wpList_load_rowG rfl 26 (.tmp 4) rfl gb rfl 26 (bs b) (0, 0) _ r1 Try.underlying26 rfl (id_info hb) ?_)
    | (refine wpList_load_rowG rfl 26 (.tmp 5) rfl gc rfl 26 (bs c) (0, 0) _ r2 Try.underlying26 rfl (id_info hc) ?_))
  refine (HBA.out _).mono ?_
  rintro e w4 ⟨rfl, hb4⟩
  replace M := M.step hb4
  clear hb4
  clear r0 r1 r2
  have r0 := M.row 0 rfl
  have r1 := M.row 1 rfl
  have r2 := M.row 2 rfl
  go_wp2_with (first
    | (refine wpList_load_rowG rfl 26 (.tmp 3) rfl ga rfl 26 (bs a) (0, 0) _ r0 Try.underlying26 rfl (id_info ha) ?_)
    | (refine wpList_load_rowG rfl 26 (.tmp 4) rfl gb rfl 26 (bs b) (0, 0) _ r1 Try.underlying26 rfl (id_info hb) ?_)
    | (refine wpList_load_rowG rfl 26 (.tmp 5) rfl gc rfl 26 (bs c) (0, 0) _ r2 Try.underlying26 rfl (id_info hc) ?_))
  refine (HAB.out _).mono ?_
  rintro e w5 ⟨rfl, hb5⟩
  replace M := M.step hb5
  clear hb5
  clear r0 r1 r2
  have r0 := M.row 0 rfl
  have r1 := M.row 1 rfl
  have r2 := M.row 2 rfl
  go_wp2_with (first
    | (refine wpList_load_rowG rfl 26 (.tmp 3) rfl ga rfl 26 (bs a) (0, 0) _ r0 Try.underlying26 rfl (id_info ha) ?_)
    | (refine wpList_load_rowG rfl 26 (.tmp 4) rfl gb rfl 26 (bs b) (0, 0) _ r1 Try.underlying26 rfl (id_info hb) ?_)
    | (refine wpList_load_rowG rfl 26 (.tmp 5) rfl gc rfl 26 (bs c) (0, 0) _ r2 Try.underlying26 rfl (id_info hc) ?_))
  refine (HAB.out _).mono ?_
  rintro e w6 ⟨rfl, hb6⟩
  replace M := M.step hb6
  clear hb6
  clear r0 r1 r2
  have r0 := M.row 0 rfl
  have r1 := M.row 1 rfl
  have r2 := M.row 2 rfl
  go_wp2_with (first
    | (refine wpList_load_rowG rfl 26 (.tmp 3) rfl ga rfl 26 (bs a) (0, 0) _ r0 Try.underlying26 rfl (id_info ha) ?_)
    | (refine wpList_load_rowG rfl 26 (.tmp 4) rfl gb rfl 26 (bs b) (0, 0) _ r1 Try.underlying26 rfl (id_info hb) ?_)
    | (refine wpList_load_rowG rfl 26 (.tmp 5) rfl gc rfl 26 (bs c) (0, 0) _ r2 Try.underlying26 rfl (id_info hc) ?_))
  refine (HBC.out _).mono ?_
  rintro e w7 ⟨rfl, hb7⟩
  replace M := M.step hb7
  clear hb7
  clear r0 r1 r2
  have r0 := M.row 0 rfl
  have r1 := M.row 1 rfl
  have HM := Lib.hid M.below
  clear M
  go_wp2
  go_ret
  exact ⟨rfl, HM.out⟩
set_option maxRecDepth 20000 in
set_option maxHeartbeats 2000000 in
theorem order11_A2 (a b c : List UInt8) (ha : a.length = 8) (hb : b.length = 8) (hc : c.length = 8) (h1 : lessL a b = true) (h2 : lessL b c = true) (w : World) : Calls Try.prog 5 #[.agg (bs a), .agg (bs b), .agg (bs c)] w fun e w' => e = .returned (.bool true) ∧ Below w.heap.size w w' := by
  have M : Mem w [(w.heap.size, 26, bs a), (w.heap.size + 1, 26, bs b), (w.heap.size + 1 + 1, 26, bs c)] (((w.alloc (.cells (bs a) 26)).alloc (.cells (bs b) 26)).alloc (.cells (bs c) 26)) :=
    (((Mem.init w).alloc _ rfl _ _).alloc _ (by simp) _ _).alloc _ (by simp) _ _
  have hk := fun W => awake11_any W
  have HK := Lib.hid hk
  clear hk
  have haa := fun W => less_any a a ha ha W
  rw [lessL_same a] at haa
  have HAA := Lib.hid haa
  clear haa
  have hab := fun W => less_any a b ha hb W
  rw [h1] at hab
  have HAB := Lib.hid hab
  clear hab
  have hba := fun W => less_any b a hb ha W
  rw [lessL_not a b h1] at hba
  have HBA := Lib.hid hba
  clear hba
  have hbc := fun W => less_any b c hb hc W
  rw [h2] at hbc
  have HBC := Lib.hid hbc
  clear hbc
  have hac := fun W => less_any a c ha hc W
  rw [lessL_trans a b c h1 h2] at hac
  have HAC := Lib.hid hac
  clear hac
  go_enter Try.func5, Try.ntmps5
  go_upto_region 1 with fail
  change Code.wp _ _ _ _ (((w.alloc (.cells (bs a) 26)).alloc (.cells (bs b) 26)).alloc (.cells (bs c) 26))
  generalize ((w.alloc (.cells (bs a) 26)).alloc (.cells (bs b) 26)).alloc (.cells (bs c) 26) = W0 at M ⊢
  obtain ⟨ga, hga⟩ : ∃ g, w.heap.size = g := ⟨_, rfl⟩
  obtain ⟨gb, hgb⟩ : ∃ g, w.heap.size + 1 = g := ⟨_, rfl⟩
  obtain ⟨gc, hgc⟩ : ∃ g, w.heap.size + 1 + 1 = g := ⟨_, rfl⟩
  rw [hgc, hgb, hga] at M ⊢
  clear hga hgb hgc
  go_wp2_with fail
  refine (HK.out _).mono ?_
  rintro e w1 ⟨rfl, hb1⟩
  replace M := M.step hb1
  clear hb1
  have r0 := M.row 0 rfl
  have r1 := M.row 1 rfl
  have r2 := M.row 2 rfl
  go_wp2_with (first
    | (refine wpList_load_rowG rfl 26 (.tmp 3) rfl ga rfl 26 (bs a) (0, 0) _ r0 Try.underlying26 rfl (id_info ha) ?_)
    | (refine wpList_load_rowG rfl 26 (.tmp 4) rfl gb rfl 26 (bs b) (0, 0) _ r1 Try.underlying26 rfl (id_info hb) ?_)
    | (refine wpList_load_rowG rfl 26 (.tmp 5) rfl gc rfl 26 (bs c) (0, 0) _ r2 Try.underlying26 rfl (id_info hc) ?_))
  refine (HAA.out _).mono ?_
  rintro e w2 ⟨rfl, hb2⟩
  replace M := M.step hb2
  clear hb2
  clear r0 r1 r2
  have r0 := M.row 0 rfl
  have r1 := M.row 1 rfl
  have r2 := M.row 2 rfl
  go_wp2_with (first
    | (refine wpList_load_rowG rfl 26 (.tmp 3) rfl ga rfl 26 (bs a) (0, 0) _ r0 Try.underlying26 rfl (id_info ha) ?_)
    | (refine wpList_load_rowG rfl 26 (.tmp 4) rfl gb rfl 26 (bs b) (0, 0) _ r1 Try.underlying26 rfl (id_info hb) ?_)
    | (refine wpList_load_rowG rfl 26 (.tmp 5) rfl gc rfl 26 (bs c) (0, 0) _ r2 Try.underlying26 rfl (id_info hc) ?_))
  refine (HAB.out _).mono ?_
  rintro e w3 ⟨rfl, hb3⟩
  replace M := M.step hb3
  clear hb3
  clear r0 r1 r2
  have r0 := M.row 0 rfl
  have r1 := M.row 1 rfl
  have r2 := M.row 2 rfl
  go_wp2_with (first
    | (refine wpList_load_rowG rfl 26 (.tmp 3) rfl ga rfl 26 (bs a) (0, 0) _ r0 Try.underlying26 rfl (id_info ha) ?_)
    | (refine wpList_load_rowG rfl 26 (.tmp 4) rfl gb rfl 26 (bs b) (0, 0) _ r1 Try.underlying26 rfl (id_info hb) ?_)
    | (refine wpList_load_rowG rfl 26 (.tmp 5) rfl gc rfl 26 (bs c) (0, 0) _ r2 Try.underlying26 rfl (id_info hc) ?_))
  refine (HBA.out _).mono ?_
  rintro e w4 ⟨rfl, hb4⟩
  replace M := M.step hb4
  clear hb4
  clear r0 r1 r2
  have r0 := M.row 0 rfl
  have r1 := M.row 1 rfl
  have r2 := M.row 2 rfl
  go_wp2_with (first
    | (refine wpList_load_rowG rfl 26 (.tmp 3) rfl ga rfl 26 (bs a) (0, 0) _ r0 Try.underlying26 rfl (id_info ha) ?_)
    | (refine wpList_load_rowG rfl 26 (.tmp 4) rfl gb rfl 26 (bs b) (0, 0) _ r1 Try.underlying26 rfl (id_info hb) ?_)
    | (refine wpList_load_rowG rfl 26 (.tmp 5) rfl gc rfl 26 (bs c) (0, 0) _ r2 Try.underlying26 rfl (id_info hc) ?_))
  refine (HAB.out _).mono ?_
  rintro e w5 ⟨rfl, hb5⟩
  replace M := M.step hb5
  clear hb5
  clear r0 r1 r2
  have r0 := M.row 0 rfl
  have r1 := M.row 1 rfl
  have r2 := M.row 2 rfl
  go_wp2_with (first
    | (refine wpList_load_rowG rfl 26 (.tmp 3) rfl ga rfl 26 (bs a) (0, 0) _ r0 Try.underlying26 rfl (id_info ha) ?_)
    | (refine wpList_load_rowG rfl 26 (.tmp 4) rfl gb rfl 26 (bs b) (0, 0) _ r1 Try.underlying26 rfl (id_info hb) ?_)
    | (refine wpList_load_rowG rfl 26 (.tmp 5) rfl gc rfl 26 (bs c) (0, 0) _ r2 Try.underlying26 rfl (id_info hc) ?_))
  refine (HAB.out _).mono ?_
  rintro e w6 ⟨rfl, hb6⟩
  replace M := M.step hb6
  clear hb6
  clear r0 r1 r2
  have r0 := M.row 0 rfl
  have r1 := M.row 1 rfl
  have r2 := M.row 2 rfl
  go_wp2_with (first
    | (refine wpList_load_rowG rfl 26 (.tmp 3) rfl ga rfl 26 (bs a) (0, 0) _ r0 Try.underlying26 rfl (id_info ha) ?_)
    | (refine wpList_load_rowG rfl 26 (.tmp 4) rfl gb rfl 26 (bs b) (0, 0) _ r1 Try.underlying26 rfl (id_info hb) ?_)
    | (refine wpList_load_rowG rfl 26 (.tmp 5) rfl gc rfl 26 (bs c) (0, 0) _ r2 Try.underlying26 rfl (id_info hc) ?_))
  refine (HBC.out _).mono ?_
  rintro e w7 ⟨rfl, hb7⟩
  replace M := M.step hb7
  clear hb7
  clear r0 r1 r2
  have r0 := M.row 0 rfl
  have r1 := M.row 1 rfl
  have r2 := M.row 2 rfl
  go_wp2_with (first
    | (refine wpList_load_rowG rfl 26 (.tmp 3) rfl ga rfl 26 (bs a) (0, 0) _ r0 Try.underlying26 rfl (id_info ha) ?_)
    | (refine wpList_load_rowG rfl 26 (.tmp 4) rfl gb rfl 26 (bs b) (0, 0) _ r1 Try.underlying26 rfl (id_info hb) ?_)
    | (refine wpList_load_rowG rfl 26 (.tmp 5) rfl gc rfl 26 (bs c) (0, 0) _ r2 Try.underlying26 rfl (id_info hc) ?_))
  refine (HAC.out _).mono ?_
  rintro e w8 ⟨rfl, hb8⟩
  replace M := M.step hb8
  clear hb8
  clear r0 r1 r2
  have r0 := M.row 0 rfl
  have r1 := M.row 1 rfl
  have HM := Lib.hid M.below
  clear M
  go_wp2
  go_ret
  exact ⟨rfl, HM.out⟩
set_option maxRecDepth 20000 in
set_option maxHeartbeats 2000000 in
theorem order11_B (a b c : List UInt8) (ha : a.length = 8) (hb : b.length = 8) (h1 : lessL a b = false) (h2 : lessL b a = true) (w : World) : Calls Try.prog 5 #[.agg (bs a), .agg (bs b), .agg (bs c)] w fun e w' => e = .returned (.bool true) ∧ Below w.heap.size w w' := by
  have M : Mem w [(w.heap.size, 26, bs a), (w.heap.size + 1, 26, bs b), (w.heap.size + 1 + 1, 26, bs c)] (((w.alloc (.cells (bs a) 26)).alloc (.cells (bs b) 26)).alloc (.cells (bs c) 26)) :=
    (((Mem.init w).alloc _ rfl _ _).alloc _ (by simp) _ _).alloc _ (by simp) _ _
  have hk := fun W => awake11_any W
  have HK := Lib.hid hk
  clear hk
  have haa := fun W => less_any a a ha ha W
  rw [lessL_same a] at haa
  have HAA := Lib.hid haa
  clear haa
  have hab := fun W => less_any a b ha hb W
  rw [h1] at hab
  have HAB := Lib.hid hab
  clear hab
  have hba := fun W => less_any b a hb ha W
  rw [h2] at hba
  have HBA := Lib.hid hba
  clear hba
  go_enter Try.func5, Try.ntmps5
  go_upto_region 1 with fail
  change Code.wp _ _ _ _ (((w.alloc (.cells (bs a) 26)).alloc (.cells (bs b) 26)).alloc (.cells (bs c) 26))
  generalize ((w.alloc (.cells (bs a) 26)).alloc (.cells (bs b) 26)).alloc (.cells (bs c) 26) = W0 at M ⊢
  obtain ⟨ga, hga⟩ : ∃ g, w.heap.size = g := ⟨_, rfl⟩
  obtain ⟨gb, hgb⟩ : ∃ g, w.heap.size + 1 = g := ⟨_, rfl⟩
  obtain ⟨gc, hgc⟩ : ∃ g, w.heap.size + 1 + 1 = g := ⟨_, rfl⟩
  rw [hgc, hgb, hga] at M ⊢
  clear hga hgb hgc
  go_wp2_with fail
  refine (HK.out _).mono ?_
  rintro e w1 ⟨rfl, hb1⟩
  replace M := M.step hb1
  clear hb1
  have r0 := M.row 0 rfl
  have r1 := M.row 1 rfl
  have r2 := M.row 2 rfl
  go_wp2_with (first
    | (refine wpList_load_rowG rfl 26 (.tmp 3) rfl ga rfl 26 (bs a) (0, 0) _ r0 Try.underlying26 rfl (id_info ha) ?_)
    | (refine wpList_load_rowG rfl 26 (.tmp 4) rfl gb rfl 26 (bs b) (0, 0) _ r1 Try.underlying26 rfl (id_info hb) ?_))
  refine (HAA.out _).mono ?_
  rintro e w2 ⟨rfl, hb2⟩
  replace M := M.step hb2
  clear hb2
  clear r0 r1 r2
  have r0 := M.row 0 rfl
  have r1 := M.row 1 rfl
  have r2 := M.row 2 rfl
  go_wp2_with (first
    | (refine wpList_load_rowG rfl 26 (.tmp 3) rfl ga rfl 26 (bs a) (0, 0) _ r0 Try.underlying26 rfl (id_info ha) ?_)
    | (refine wpList_load_rowG rfl 26 (.tmp 4) rfl gb rfl 26 (bs b) (0, 0) _ r1 Try.underlying26 rfl (id_info hb) ?_))
  refine (HAB.out _).mono ?_
  rintro e w3 ⟨rfl, hb3⟩
  replace M := M.step hb3
  clear hb3
  clear r0 r1 r2
  have r0 := M.row 0 rfl
  have r1 := M.row 1 rfl
  have r2 := M.row 2 rfl
  go_wp2_with (first
    | (refine wpList_load_rowG rfl 26 (.tmp 3) rfl ga rfl 26 (bs a) (0, 0) _ r0 Try.underlying26 rfl (id_info ha) ?_)
    | (refine wpList_load_rowG rfl 26 (.tmp 4) rfl gb rfl 26 (bs b) (0, 0) _ r1 Try.underlying26 rfl (id_info hb) ?_))
  refine (HAB.out _).mono ?_
  rintro e w4 ⟨rfl, hb4⟩
  replace M := M.step hb4
  clear hb4
  clear r0 r1 r2
  have r0 := M.row 0 rfl
  have r1 := M.row 1 rfl
  have r2 := M.row 2 rfl
  go_wp2_with (first
    | (refine wpList_load_rowG rfl 26 (.tmp 3) rfl ga rfl 26 (bs a) (0, 0) _ r0 Try.underlying26 rfl (id_info ha) ?_)
    | (refine wpList_load_rowG rfl 26 (.tmp 4) rfl gb rfl 26 (bs b) (0, 0) _ r1 Try.underlying26 rfl (id_info hb) ?_))
  refine (HBA.out _).mono ?_
  rintro e w5 ⟨rfl, hb5⟩
  replace M := M.step hb5
  clear hb5
  clear r0 r1 r2
  have r0 := M.row 0 rfl
  have r1 := M.row 1 rfl
  have r2 := M.row 2 rfl
  go_wp2_with (first
    | (refine wpList_load_rowG rfl 26 (.tmp 3) rfl ga rfl 26 (bs a) (0, 0) _ r0 Try.underlying26 rfl (id_info ha) ?_)
    | (refine wpList_load_rowG rfl 26 (.tmp 4) rfl gb rfl 26 (bs b) (0, 0) _ r1 Try.underlying26 rfl (id_info hb) ?_))
  refine (HAB.out _).mono ?_
  rintro e w6 ⟨rfl, hb6⟩
  replace M := M.step hb6
  clear hb6
  clear r0 r1 r2
  have r0 := M.row 0 rfl
  have r1 := M.row 1 rfl
  have HM := Lib.hid M.below
  clear M
  go_wp2
  go_ret
  exact ⟨rfl, HM.out⟩
set_option maxRecDepth 20000 in
set_option maxHeartbeats 2000000 in
theorem order11_C (a b c : List UInt8) (ha : a.length = 8) (hb : b.length = 8) (h1 : lessL a b = false) (h2 : lessL b a = false) (w : World) : Calls Try.prog 5 #[.agg (bs a), .agg (bs b), .agg (bs c)] w fun e w' => e = .returned (.bool true) ∧ Below w.heap.size w w' := by
  have M : Mem w [(w.heap.size, 26, bs a), (w.heap.size + 1, 26, bs b), (w.heap.size + 1 + 1, 26, bs c)] (((w.alloc (.cells (bs a) 26)).alloc (.cells (bs b) 26)).alloc (.cells (bs c) 26)) :=
    (((Mem.init w).alloc _ rfl _ _).alloc _ (by simp) _ _).alloc _ (by simp) _ _
  have hk := fun W => awake11_any W
  have HK := Lib.hid hk
  clear hk
  have haa := fun W => less_any a a ha ha W
  rw [lessL_same a] at haa
  have HAA := Lib.hid haa
  clear haa
  have hab := fun W => less_any a b ha hb W
  rw [h1] at hab
  have HAB := Lib.hid hab
  clear hab
  have hba := fun W => less_any b a hb ha W
  rw [h2] at hba
  have HBA := Lib.hid hba
  clear hba
  go_enter Try.func5, Try.ntmps5
  go_upto_region 1 with fail
  change Code.wp _ _ _ _ (((w.alloc (.cells (bs a) 26)).alloc (.cells (bs b) 26)).alloc (.cells (bs c) 26))
  generalize ((w.alloc (.cells (bs a) 26)).alloc (.cells (bs b) 26)).alloc (.cells (bs c) 26) = W0 at M ⊢
  obtain ⟨ga, hga⟩ : ∃ g, w.heap.size = g := ⟨_, rfl⟩
  obtain ⟨gb, hgb⟩ : ∃ g, w.heap.size + 1 = g := ⟨_, rfl⟩
  obtain ⟨gc, hgc⟩ : ∃ g, w.heap.size + 1 + 1 = g := ⟨_, rfl⟩
  rw [hgc, hgb, hga] at M ⊢
  clear hga hgb hgc
  go_wp2_with fail
  refine (HK.out _).mono ?_
  rintro e w1 ⟨rfl, hb1⟩
  replace M := M.step hb1
  clear hb1
  have r0 := M.row 0 rfl
  have r1 := M.row 1 rfl
  have r2 := M.row 2 rfl
  go_wp2_with (first
    | (refine wpList_load_rowG rfl 26 (.tmp 3) rfl ga rfl 26 (bs a) (0, 0) _ r0 Try.underlying26 rfl (id_info ha) ?_)
    | (refine wpList_load_rowG rfl 26 (.tmp 4) rfl gb rfl 26 (bs b) (0, 0) _ r1 Try.underlying26 rfl (id_info hb) ?_))
  refine (HAA.out _).mono ?_
  rintro e w2 ⟨rfl, hb2⟩
  replace M := M.step hb2
  clear hb2
  clear r0 r1 r2
  have r0 := M.row 0 rfl
  have r1 := M.row 1 rfl
  have r2 := M.row 2 rfl
  go_wp2_with (first
    | (refine wpList_load_rowG rfl 26 (.tmp 3) rfl ga rfl 26 (bs a) (0, 0) _ r0 Try.underlying26 rfl (id_info ha) ?_)
    | (refine wpList_load_rowG rfl 26 (.tmp 4) rfl gb rfl 26 (bs b) (0, 0) _ r1 Try.underlying26 rfl (id_info hb) ?_))
  refine (HAB.out _).mono ?_
  rintro e w3 ⟨rfl, hb3⟩
  replace M := M.step hb3
  clear hb3
  clear r0 r1 r2
  have r0 := M.row 0 rfl
  have r1 := M.row 1 rfl
  have r2 := M.row 2 rfl
  go_wp2_with (first
    | (refine wpList_load_rowG rfl 26 (.tmp 3) rfl ga rfl 26 (bs a) (0, 0) _ r0 Try.underlying26 rfl (id_info ha) ?_)
    | (refine wpList_load_rowG rfl 26 (.tmp 4) rfl gb rfl 26 (bs b) (0, 0) _ r1 Try.underlying26 rfl (id_info hb) ?_))
  refine (HAB.out _).mono ?_
  rintro e w4 ⟨rfl, hb4⟩
  replace M := M.step hb4
  clear hb4
  clear r0 r1 r2
  have r0 := M.row 0 rfl
  have r1 := M.row 1 rfl
  have r2 := M.row 2 rfl
  go_wp2_with (first
    | (refine wpList_load_rowG rfl 26 (.tmp 3) rfl ga rfl 26 (bs a) (0, 0) _ r0 Try.underlying26 rfl (id_info ha) ?_)
    | (refine wpList_load_rowG rfl 26 (.tmp 4) rfl gb rfl 26 (bs b) (0, 0) _ r1 Try.underlying26 rfl (id_info hb) ?_))
  refine (HBA.out _).mono ?_
  rintro e w5 ⟨rfl, hb5⟩
  replace M := M.step hb5
  clear hb5
  clear r0 r1 r2
  have hab := lessL_one a b (by omega) h1 h2
  have hne : (a != b) = false := by rw [hab]; simp
  have HNE := Lib.hid hne
  clear hne hab
  have r0 := M.row 0 rfl
  have r1 := M.row 1 rfl
  have r2 := M.row 2 rfl
  go_wp2_with (first
    | (refine wpList_load_rowG rfl 26 (.tmp 3) rfl ga rfl 26 (bs a) (0, 0) _ r0 Try.underlying26 rfl (id_info ha) ?_)
    | (refine wpList_load_rowG rfl 26 (.tmp 4) rfl gb rfl 26 (bs b) (0, 0) _ r1 Try.underlying26 rfl (id_info hb) ?_)
    | (refine wpExecG (by kernel_rfl) (.bool false) (by rw [← HNE.out]; exact exec_neqB 26 8 Try.underlying26 (by kernel_rfl) (.tmp 36) (.tmp 37) a b ha hb rfl rfl rfl) ?_))
  refine (HAB.out _).mono ?_
  rintro e w6 ⟨rfl, hb6⟩
  replace M := M.step hb6
  clear hb6
  clear r0 r1 r2
  have r0 := M.row 0 rfl
  have r1 := M.row 1 rfl
  have HM := Lib.hid M.below
  clear M
  go_wp2
  go_ret
  exact ⟨rfl, HM.out⟩
theorem order11_any (a b c : List UInt8) (ha : a.length = 8) (hb : b.length = 8) (hc : c.length = 8) (w : World) : Calls Try.prog 5 #[.agg (bs a), .agg (bs b), .agg (bs c)] w fun e w' => e = .returned (.bool true) ∧ Below w.heap.size w w' := by
  cases h1 : lessL a b with
  | true =>
    cases h2 : lessL b c with
    | true => exact order11_A2 a b c ha hb hc h1 h2 w
    | false => exact order11_A1 a b c ha hb hc h1 h2 w
  | false =>
    cases h2 : lessL b a with
    | true => exact order11_B a b c ha hb h1 h2 w
    | false => exact order11_C a b c ha hb h1 h2 w
end Go.Proofs.Ytingcoojhfadgaa
