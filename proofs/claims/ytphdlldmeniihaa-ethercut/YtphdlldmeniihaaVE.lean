/- ether.parsed: walked, frames without a tag. -/
import Derived.Test.YtphdlldmeniihaaVD
namespace Go.Proofs.Ytphdlldmeniihaa
open Go.RowKit
set_option maxRecDepth 20000 in
set_option maxHeartbeats 2000000 in
theorem parsed_plain_long (s : ByteArray) (h : 14 ≤ s.size) (hk : wd s 12 ≠ 33024) (hm : 1514 < s.size) (D S : List UInt8) (hD : s.data.toList.take 6 = D) (hS : (s.extract 6 s.size).data.toList.take 6 = S) (w : World) :
    Calls Try.prog 17 #[.string s] w fun e w' => Below w.heap.size w w' ∧ e = thrown 3 := by
  have hc := fun W => word_any s 12 (by omega) (by omega) W
  have hk2 : ((wd s 12 : Int) == 33024) = false := by simp; omega
  generalize wd s 12 = K at hc hk hk2
  have HC := Lib.hid hc
  clear hc hk
  have tm : decide ((s.size : Int) ≤ 1514) = false := by simp; omega
  have t14 : (14 : Int) ≤ (s.size : Int) := by omega
  have M : Mem w [(w.heap.size, 32, ez.c), (w.heap.size + 1, 32, e0.c)] ((w.alloc (.cells ez.c 32)).alloc (.cells e0.c 32)) :=
    ((Mem.init w).alloc _ rfl _ _).alloc _ (by simp) _ _
  have hs6 : 6 ≤ (s.extract 6 s.size).size := by rw [ByteArray.size_extract]; omega
  have x1 : (E8.mk D o6 0 ⟨#[]⟩ (-1) 0).Six := ⟨by rw [← hD]; simp only [List.length_take, len_list]; omega, rfl⟩
  have x2 : (E8.mk D S 0 ⟨#[]⟩ (-1) 0).Six := ⟨x1.d, by rw [← hS]; simp only [List.length_take, len_list]; omega⟩
  have HD := Lib.hid hD
  have HS := Lib.hid hS
  clear hD hS
  go_enter Try.func17, Try.ntmps17
  go_upto_region 3 with (first
    | (go_at_call 19; refine (demand_any _ _ _).mono ?_; rintro e w1 ⟨he, rfl⟩; first | (replace he := he.trans demanded_yes; subst he) | (replace he := he.trans demanded_no; subst he)))
  change Code.wp _ _ _ _ ((w.alloc (.cells ez.c 32)).alloc (.cells e0.c 32))
  generalize (w.alloc (.cells ez.c 32)).alloc (.cells e0.c 32) = W0 at M ⊢
  have hcp := copy_dst (M.row 1 rfl) e0_six s (by omega) HD.out
  replace M := M.store 1 rfl (E8.mk D o6 0 ⟨#[]⟩ (-1) 0).c
  simp only [List.set_cons_zero, List.set_cons_succ] at M
  generalize W0.setRow (w.heap.size + 1) (E8.mk D o6 0 ⟨#[]⟩ (-1) 0).c = W1 at hcp M
  go_upto_region 4 with fail
  clear hcp
  refine wp_region_noPanic ?_
  refine wp_region_flow (fin := ?fin1) 5 1 (by kernel_rfl) [.inl (.pointer (some ⟨w.heap.size + 1, 0, none⟩)),
    .inl (.pointer (some ⟨w.heap.size + 1, 6, none⟩)),
    .inl (.slice (some ⟨w.heap.size + 1, 6, none⟩) 6 6),
    .inl (.string s),
    .inl (.string (s.extract 6 s.size))] rfl rfl (by kernel_rfl) ?hfin1 ?hE1 ?hend1
  case hfin1 =>
    intro G
    simp only [flowAll, flowVal, Act.put, List.setIfInBounds_toArray, List.set_cons_zero, List.set_cons_succ]
    exact rfl
  case hE1 =>
    intro G
    refine ⟨Or.inr (fun W hB => known_val rfl (by go_simp)),
      Or.inr (fun W hB => known_val rfl (by go_simp)),
      Or.inr (fun W hB => known_val rfl (by go_simp)),
      Or.inr (fun W hB => known_val rfl (by go_simp)),
      Or.inr (fun W hB => known_val rfl (by go_simp; intro h9; omega)), trivial⟩
  intro G W hB hM
  replace M := M.drew.step hB
  clear hB hM G
  have hcp := copy_src (M.row 1 rfl) x1 (s.extract 6 s.size) hs6 HS.out
  replace M := M.store 1 rfl (E8.mk D S 0 ⟨#[]⟩ (-1) 0).c
  simp only [List.set_cons_zero, List.set_cons_succ] at M
  generalize W.setRow (w.heap.size + 1) (E8.mk D S 0 ⟨#[]⟩ (-1) 0).c = W2 at hcp M
  refine val0 5 20 (.int .i64 6) W2 _ (by kernel_rfl) rfl rfl rfl (by go_simp) ?_
  simp only [Act.put]
  refine wpAny_end (by kernel_rfl) ?_ _
  refine NoPanic.normal ?_
  clear hcp W W0 W1
  have HM3 := Lib.hid M
  clear M
  have x4 := x2
  go_wp2_with (first
    | (go_at_call 20; refine (HC.out _).mono ?_; rintro e w1 ⟨rfl, rfl⟩)
    | (go_at_call 19; refine (demand_any _ _ _).mono ?_; rintro e w1 ⟨he, rfl⟩; first | (replace he := he.trans demanded_yes; subst he) | (replace he := he.trans demanded_no; subst he)))
  exact ⟨rfl, HM3.out.below, rfl⟩
set_option maxRecDepth 20000 in
set_option maxHeartbeats 2000000 in
theorem parsed_plain_none (s : ByteArray) (h : 14 ≤ s.size) (hk : wd s 12 ≠ 33024) (hm : s.size ≤ 1514) (n : Int) (hcn : ∀ W, Calls Try.prog 22 #[.int .i64 (wd s 12 : Int), .string (s.extract 14 s.size)] W fun e w' => e = thrown n ∧ w' = W) (D S : List UInt8) (hD : s.data.toList.take 6 = D) (hS : (s.extract 6 s.size).data.toList.take 6 = S) (w : World) :
    Calls Try.prog 17 #[.string s] w fun e w' => Below w.heap.size w w' ∧ e = thrown n := by
  have hc := fun W => word_any s 12 (by omega) (by omega) W
  have hk2 : ((wd s 12 : Int) == 33024) = false := by simp; omega
  generalize wd s 12 = K at hc hk hk2 hcn
  have HC := Lib.hid hc
  clear hc hk
  have HN := Lib.hid hcn
  clear hcn
  have tm : decide ((s.size : Int) ≤ 1514) = true := by simp; omega
  have t14 : (14 : Int) ≤ (s.size : Int) := by omega
  have M : Mem w [(w.heap.size, 32, ez.c), (w.heap.size + 1, 32, e0.c)] ((w.alloc (.cells ez.c 32)).alloc (.cells e0.c 32)) :=
    ((Mem.init w).alloc _ rfl _ _).alloc _ (by simp) _ _
  have hs6 : 6 ≤ (s.extract 6 s.size).size := by rw [ByteArray.size_extract]; omega
  have x1 : (E8.mk D o6 0 ⟨#[]⟩ (-1) 0).Six := ⟨by rw [← hD]; simp only [List.length_take, len_list]; omega, rfl⟩
  have x2 : (E8.mk D S 0 ⟨#[]⟩ (-1) 0).Six := ⟨x1.d, by rw [← hS]; simp only [List.length_take, len_list]; omega⟩
  have HD := Lib.hid hD
  have HS := Lib.hid hS
  clear hD hS
  go_enter Try.func17, Try.ntmps17
  go_upto_region 3 with (first
    | (go_at_call 19; refine (demand_any _ _ _).mono ?_; rintro e w1 ⟨he, rfl⟩; first | (replace he := he.trans demanded_yes; subst he) | (replace he := he.trans demanded_no; subst he)))
  change Code.wp _ _ _ _ ((w.alloc (.cells ez.c 32)).alloc (.cells e0.c 32))
  generalize (w.alloc (.cells ez.c 32)).alloc (.cells e0.c 32) = W0 at M ⊢
  have hcp := copy_dst (M.row 1 rfl) e0_six s (by omega) HD.out
  replace M := M.store 1 rfl (E8.mk D o6 0 ⟨#[]⟩ (-1) 0).c
  simp only [List.set_cons_zero, List.set_cons_succ] at M
  generalize W0.setRow (w.heap.size + 1) (E8.mk D o6 0 ⟨#[]⟩ (-1) 0).c = W1 at hcp M
  go_upto_region 4 with fail
  clear hcp
  refine wp_region_noPanic ?_
  refine wp_region_flow (fin := ?fin2) 5 1 (by kernel_rfl) [.inl (.pointer (some ⟨w.heap.size + 1, 0, none⟩)),
    .inl (.pointer (some ⟨w.heap.size + 1, 6, none⟩)),
    .inl (.slice (some ⟨w.heap.size + 1, 6, none⟩) 6 6),
    .inl (.string s),
    .inl (.string (s.extract 6 s.size))] rfl rfl (by kernel_rfl) ?hfin2 ?hE2 ?hend2
  case hfin2 =>
    intro G
    simp only [flowAll, flowVal, Act.put, List.setIfInBounds_toArray, List.set_cons_zero, List.set_cons_succ]
    exact rfl
  case hE2 =>
    intro G
    refine ⟨Or.inr (fun W hB => known_val rfl (by go_simp)),
      Or.inr (fun W hB => known_val rfl (by go_simp)),
      Or.inr (fun W hB => known_val rfl (by go_simp)),
      Or.inr (fun W hB => known_val rfl (by go_simp)),
      Or.inr (fun W hB => known_val rfl (by go_simp; intro h9; omega)), trivial⟩
  intro G W hB hM
  replace M := M.drew.step hB
  clear hB hM G
  have hcp := copy_src (M.row 1 rfl) x1 (s.extract 6 s.size) hs6 HS.out
  replace M := M.store 1 rfl (E8.mk D S 0 ⟨#[]⟩ (-1) 0).c
  simp only [List.set_cons_zero, List.set_cons_succ] at M
  generalize W.setRow (w.heap.size + 1) (E8.mk D S 0 ⟨#[]⟩ (-1) 0).c = W2 at hcp M
  refine val0 5 20 (.int .i64 6) W2 _ (by kernel_rfl) rfl rfl rfl (by go_simp) ?_
  simp only [Act.put]
  refine wpAny_end (by kernel_rfl) ?_ _
  refine NoPanic.normal ?_
  clear hcp W W0 W1
  have HM3 := Lib.hid M
  clear M
  have x4 := x2
  go_upto_region 10 with (first
    | (go_at_call 20; refine (HC.out _).mono ?_; rintro e w1 ⟨rfl, rfl⟩)
    | (go_at_call 19; refine (demand_any _ _ _).mono ?_; rintro e w1 ⟨he, rfl⟩; first | (replace he := he.trans demanded_yes; subst he) | (replace he := he.trans demanded_no; subst he)))
  have M := HM3.out
  clear HM3
  refine wp_region_freePanic ?_
  refine wp_region_any rfl ?_
  refine take0 0 38 (.string s) _ rfl (by kernel_rfl) (by kernel_rfl) (by kernel_rfl) (fun _ _ _ h a' ha => h a' ha) rfl rfl (fun w' => by go_simp) ?_
  simp only [Act.put, List.setIfInBounds_toArray, List.set_cons_zero, List.set_cons_succ]
  refine take0 1 39 (.int .i64 14) _ rfl (by kernel_rfl) (by kernel_rfl) (by kernel_rfl) (fun _ _ _ h a' ha => h a' ha) rfl rfl (fun w' => by go_simp) ?_
  simp only [Act.put, List.setIfInBounds_toArray, List.set_cons_zero, List.set_cons_succ]
  refine take0 2 40 (.int .i64 12) _ rfl (by kernel_rfl) (by kernel_rfl) (by kernel_rfl) (fun _ _ _ h a' ha => h a' ha) rfl rfl (fun w' => by go_simp; rfl) ?_
  simp only [Act.put, List.setIfInBounds_toArray, List.set_cons_zero, List.set_cons_succ]
  refine take0 4 42 (.string s) _ rfl (by kernel_rfl) (by kernel_rfl) (by kernel_rfl) (fun _ _ _ h a' ha => h a' ha) rfl rfl (fun w' => by go_simp) ?_
  simp only [Act.put, List.setIfInBounds_toArray, List.set_cons_zero, List.set_cons_succ]
  refine take0 5 43 (.int .i64 14) _ rfl (by kernel_rfl) (by kernel_rfl) (by kernel_rfl) (fun _ _ _ h a' ha => h a' ha) rfl rfl (fun w' => by go_simp) ?_
  simp only [Act.put, List.setIfInBounds_toArray, List.set_cons_zero, List.set_cons_succ]
  refine take0 6 44 (.string (s.extract 14 s.size)) _ rfl (by kernel_rfl) (by kernel_rfl) (by kernel_rfl) (fun _ _ _ h a' ha => h a' ha) rfl rfl (fun w' => by go_simp) ?_
  simp only [Act.put, List.setIfInBounds_toArray, List.set_cons_zero, List.set_cons_succ]
  refine callP 3 41 20 #[.string s, .int .i64 12] _ (by kernel_rfl) rfl rfl rfl (by go_simp) (HC.out _) ?_
  rintro e w3 ⟨rfl, rfl⟩
  refine Or.inl ⟨_, rfl, ?_⟩
  simp only [Act.put, List.setIfInBounds_toArray, List.set_cons_zero, List.set_cons_succ]
  refine callP 7 45 22 #[.int .i64 (K : Int), .string (s.extract 14 s.size)] _ (by kernel_rfl) rfl rfl rfl (by go_simp) (HN.out _) ?_
  rintro e w4 ⟨rfl, rfl⟩
  refine Or.inr ⟨_, rfl, ?_⟩
  intro a' ha
  go_wp2
  exact ⟨ha, M.below.drew, rfl⟩
set_option maxRecDepth 20000 in
set_option maxHeartbeats 2000000 in
theorem parsed_plain_ok (s : ByteArray) (h : 14 ≤ s.size) (hk : wd s 12 ≠ 33024) (hm : s.size ≤ 1514) (k : Int) (b : ByteArray) (hcn : ∀ W, Calls Try.prog 22 #[.int .i64 (wd s 12 : Int), .string (s.extract 14 s.size)] W fun e w' => e = .returned (.tuple #[.int .i64 k, .string b]) ∧ Below W.heap.size W w') (D S : List UInt8) (hD : s.data.toList.take 6 = D) (hS : (s.extract 6 s.size).data.toList.take 6 = S) (w : World) :
    Calls Try.prog 17 #[.string s] w fun e w' => Below w.heap.size w w' ∧ e = .returned (.agg (E8.mk D S k b (-1) (0)).c) := by
  have hc := fun W => word_any s 12 (by omega) (by omega) W
  have hk2 : ((wd s 12 : Int) == 33024) = false := by simp; omega
  generalize wd s 12 = K at hc hk hk2 hcn
  have HC := Lib.hid hc
  clear hc hk
  have HN := Lib.hid hcn
  clear hcn
  have tm : decide ((s.size : Int) ≤ 1514) = true := by simp; omega
  have t14 : (14 : Int) ≤ (s.size : Int) := by omega
  have M : Mem w [(w.heap.size, 32, ez.c), (w.heap.size + 1, 32, e0.c)] ((w.alloc (.cells ez.c 32)).alloc (.cells e0.c 32)) :=
    ((Mem.init w).alloc _ rfl _ _).alloc _ (by simp) _ _
  have hs6 : 6 ≤ (s.extract 6 s.size).size := by rw [ByteArray.size_extract]; omega
  have x1 : (E8.mk D o6 0 ⟨#[]⟩ (-1) 0).Six := ⟨by rw [← hD]; simp only [List.length_take, len_list]; omega, rfl⟩
  have x2 : (E8.mk D S 0 ⟨#[]⟩ (-1) 0).Six := ⟨x1.d, by rw [← hS]; simp only [List.length_take, len_list]; omega⟩
  have HD := Lib.hid hD
  have HS := Lib.hid hS
  clear hD hS
  go_enter Try.func17, Try.ntmps17
  go_upto_region 3 with (first
    | (go_at_call 19; refine (demand_any _ _ _).mono ?_; rintro e w1 ⟨he, rfl⟩; first | (replace he := he.trans demanded_yes; subst he) | (replace he := he.trans demanded_no; subst he)))
  change Code.wp _ _ _ _ ((w.alloc (.cells ez.c 32)).alloc (.cells e0.c 32))
  generalize (w.alloc (.cells ez.c 32)).alloc (.cells e0.c 32) = W0 at M ⊢
  have hcp := copy_dst (M.row 1 rfl) e0_six s (by omega) HD.out
  replace M := M.store 1 rfl (E8.mk D o6 0 ⟨#[]⟩ (-1) 0).c
  simp only [List.set_cons_zero, List.set_cons_succ] at M
  generalize W0.setRow (w.heap.size + 1) (E8.mk D o6 0 ⟨#[]⟩ (-1) 0).c = W1 at hcp M
  go_upto_region 4 with fail
  clear hcp
  refine wp_region_noPanic ?_
  refine wp_region_flow (fin := ?fin3) 5 1 (by kernel_rfl) [.inl (.pointer (some ⟨w.heap.size + 1, 0, none⟩)),
    .inl (.pointer (some ⟨w.heap.size + 1, 6, none⟩)),
    .inl (.slice (some ⟨w.heap.size + 1, 6, none⟩) 6 6),
    .inl (.string s),
    .inl (.string (s.extract 6 s.size))] rfl rfl (by kernel_rfl) ?hfin3 ?hE3 ?hend3
  case hfin3 =>
    intro G
    simp only [flowAll, flowVal, Act.put, List.setIfInBounds_toArray, List.set_cons_zero, List.set_cons_succ]
    exact rfl
  case hE3 =>
    intro G
    refine ⟨Or.inr (fun W hB => known_val rfl (by go_simp)),
      Or.inr (fun W hB => known_val rfl (by go_simp)),
      Or.inr (fun W hB => known_val rfl (by go_simp)),
      Or.inr (fun W hB => known_val rfl (by go_simp)),
      Or.inr (fun W hB => known_val rfl (by go_simp; intro h9; omega)), trivial⟩
  intro G W hB hM
  replace M := M.drew.step hB
  clear hB hM G
  have hcp := copy_src (M.row 1 rfl) x1 (s.extract 6 s.size) hs6 HS.out
  replace M := M.store 1 rfl (E8.mk D S 0 ⟨#[]⟩ (-1) 0).c
  simp only [List.set_cons_zero, List.set_cons_succ] at M
  generalize W.setRow (w.heap.size + 1) (E8.mk D S 0 ⟨#[]⟩ (-1) 0).c = W2 at hcp M
  refine val0 5 20 (.int .i64 6) W2 _ (by kernel_rfl) rfl rfl rfl (by go_simp) ?_
  simp only [Act.put]
  refine wpAny_end (by kernel_rfl) ?_ _
  refine NoPanic.normal ?_
  clear hcp W W0 W1
  have HM3 := Lib.hid M
  clear M
  have x4 := x2
  go_upto_region 10 with (first
    | (go_at_call 20; refine (HC.out _).mono ?_; rintro e w1 ⟨rfl, rfl⟩)
    | (go_at_call 19; refine (demand_any _ _ _).mono ?_; rintro e w1 ⟨he, rfl⟩; first | (replace he := he.trans demanded_yes; subst he) | (replace he := he.trans demanded_no; subst he)))
  have M := HM3.out
  clear HM3
  refine wp_region_freePanic ?_
  refine wp_region_any rfl ?_
  refine take0 0 38 (.string s) _ rfl (by kernel_rfl) (by kernel_rfl) (by kernel_rfl) (fun _ _ _ h a' ha => h a' ha) rfl rfl (fun w' => by go_simp) ?_
  simp only [Act.put, List.setIfInBounds_toArray, List.set_cons_zero, List.set_cons_succ]
  refine take0 1 39 (.int .i64 14) _ rfl (by kernel_rfl) (by kernel_rfl) (by kernel_rfl) (fun _ _ _ h a' ha => h a' ha) rfl rfl (fun w' => by go_simp) ?_
  simp only [Act.put, List.setIfInBounds_toArray, List.set_cons_zero, List.set_cons_succ]
  refine take0 2 40 (.int .i64 12) _ rfl (by kernel_rfl) (by kernel_rfl) (by kernel_rfl) (fun _ _ _ h a' ha => h a' ha) rfl rfl (fun w' => by go_simp; rfl) ?_
  simp only [Act.put, List.setIfInBounds_toArray, List.set_cons_zero, List.set_cons_succ]
  refine take0 4 42 (.string s) _ rfl (by kernel_rfl) (by kernel_rfl) (by kernel_rfl) (fun _ _ _ h a' ha => h a' ha) rfl rfl (fun w' => by go_simp) ?_
  simp only [Act.put, List.setIfInBounds_toArray, List.set_cons_zero, List.set_cons_succ]
  refine take0 5 43 (.int .i64 14) _ rfl (by kernel_rfl) (by kernel_rfl) (by kernel_rfl) (fun _ _ _ h a' ha => h a' ha) rfl rfl (fun w' => by go_simp) ?_
  simp only [Act.put, List.setIfInBounds_toArray, List.set_cons_zero, List.set_cons_succ]
  refine take0 6 44 (.string (s.extract 14 s.size)) _ rfl (by kernel_rfl) (by kernel_rfl) (by kernel_rfl) (fun _ _ _ h a' ha => h a' ha) rfl rfl (fun w' => by go_simp) ?_
  simp only [Act.put, List.setIfInBounds_toArray, List.set_cons_zero, List.set_cons_succ]
  refine callP 3 41 20 #[.string s, .int .i64 12] _ (by kernel_rfl) rfl rfl rfl (by go_simp) (HC.out _) ?_
  rintro e w3 ⟨rfl, rfl⟩
  refine Or.inl ⟨_, rfl, ?_⟩
  simp only [Act.put, List.setIfInBounds_toArray, List.set_cons_zero, List.set_cons_succ]
  refine callP 7 45 22 #[.int .i64 (K : Int), .string (s.extract 14 s.size)] _ (by kernel_rfl) rfl rfl rfl (by go_simp) (HN.out _) ?_
  rintro e w4 ⟨rfl, hb4⟩
  refine Or.inl ⟨_, rfl, ?_⟩
  simp only [Act.put, List.setIfInBounds_toArray, List.set_cons_zero, List.set_cons_succ]
  replace M := M.drew.step hb4
  clear hb4
  refine take0 8 37 (.tuple #[.int .i64 k, .string b]) _ rfl (by kernel_rfl) (by kernel_rfl) (by kernel_rfl) (fun _ _ _ h a' ha => h a' ha) rfl rfl (fun w' => by go_simp) ?_
  simp only [Act.put, List.setIfInBounds_toArray, List.set_cons_zero, List.set_cons_succ]
  refine take0 9 46 (.int .i64 k) _ rfl (by kernel_rfl) (by kernel_rfl) (by kernel_rfl) (fun _ _ _ h a' ha => h a' ha) rfl rfl (fun w' => by go_simp) ?_
  simp only [Act.put, List.setIfInBounds_toArray, List.set_cons_zero, List.set_cons_succ]
  refine take0 10 47 (.string b) _ rfl (by kernel_rfl) (by kernel_rfl) (by kernel_rfl) (fun _ _ _ h a' ha => h a' ha) rfl rfl (fun w' => by go_simp) ?_
  simp only [Act.put, List.setIfInBounds_toArray, List.set_cons_zero, List.set_cons_succ]
  refine take0 11 48 (.pointer (some ⟨w.heap.size + 1, 0, none⟩)) _ rfl (by kernel_rfl) (by kernel_rfl) (by kernel_rfl) (fun _ _ _ h a' ha => h a' ha) rfl rfl (fun w' => by go_simp) ?_
  simp only [Act.put, List.setIfInBounds_toArray, List.set_cons_zero, List.set_cons_succ]
  refine take0 12 49 (.pointer (some ⟨w.heap.size + 1, 12, none⟩)) _ rfl (by kernel_rfl) (by kernel_rfl) (by kernel_rfl) (fun _ _ _ h a' ha => h a' ha) rfl rfl (fun w' => by go_simp) ?_
  simp only [Act.put, List.setIfInBounds_toArray, List.set_cons_zero, List.set_cons_succ]
  have c12 := (M.row 1 rfl).fk x4
  have f12 := (M.row 1 rfl).frozen 12
  replace M := M.setCell 1 rfl 12 (.int .i64 k)
  rw [E8.set_k x4] at M
  simp only [List.set_cons_zero, List.set_cons_succ] at M
  refine only0 13 (w4.setCell ⟨w.heap.size + 1, 12, none⟩ (.int .i64 k)) _ (by kernel_rfl) rfl rfl rfl (by go_simp) ?_
  clear c12 f12
  generalize w4.setCell ⟨w.heap.size + 1, 12, none⟩ (.int .i64 k) = W6 at M ⊢
  simp only [Act.put]
  refine take0 14 50 (.pointer (some ⟨w.heap.size + 1, 0, none⟩)) _ rfl (by kernel_rfl) (by kernel_rfl) (by kernel_rfl) (fun _ _ _ h a' ha => h a' ha) rfl rfl (fun w' => by go_simp) ?_
  simp only [Act.put, List.setIfInBounds_toArray, List.set_cons_zero, List.set_cons_succ]
  refine take0 15 51 (.pointer (some ⟨w.heap.size + 1, 13, none⟩)) _ rfl (by kernel_rfl) (by kernel_rfl) (by kernel_rfl) (fun _ _ _ h a' ha => h a' ha) rfl rfl (fun w' => by go_simp) ?_
  simp only [Act.put, List.setIfInBounds_toArray, List.set_cons_zero, List.set_cons_succ]
  have x5 : (E8.mk D S k ⟨#[]⟩ (-1) (0)).Six := ⟨x2.d, x2.s⟩
  have c13 := (M.row 1 rfl).fb x5
  have f13 := (M.row 1 rfl).frozen 13
  replace M := M.setCell 1 rfl 13 (.string b)
  rw [E8.set_b x5] at M
  simp only [List.set_cons_zero, List.set_cons_succ] at M
  refine only0 16 (W6.setCell ⟨w.heap.size + 1, 13, none⟩ (.string b)) _ (by kernel_rfl) rfl rfl rfl (by go_simp) ?_
  clear c13 f13
  generalize W6.setCell ⟨w.heap.size + 1, 13, none⟩ (.string b) = W7 at M ⊢
  have x6 : (E8.mk D S k b (-1) (0)).Six := ⟨x2.d, x2.s⟩
  have cv := (M.row 1 rfl).fv x6
  simp only [Act.put]
  refine wpAny_end (by kernel_rfl) ?_ _
  refine FreePanic.normal ?_
  have r1 := M.row 1 rfl
  have r0 := M.row 0 rfl
  replace M := M.store 0 rfl (E8.mk D S k b (-1) (0)).c
  have HM := Lib.hid M
  clear M
  go_wp2_with (first
    | (go_at_call 19; refine (demand_any _ _ _).mono ?_; rintro e w1 ⟨he, rfl⟩; first | (replace he := he.trans demanded_yes; subst he) | (replace he := he.trans demanded_no; subst he))
    | (refine wpList_load_row rfl 32 (.tmp 3) rfl (w.heap.size + 1) rfl 32 (E8.mk D S k b (-1) (0)).c (0, 0) _ r1 Try.underlying32 rfl (e8_info x6) ?_)
    | (refine wpList_store_row rfl 32 (.tmp 2) (.tmp 56) rfl w.heap.size (E8.mk D S k b (-1) (0)).c rfl rfl 32 ez.c r0 (e8_info x6) (by rw [E8.size ez_six, E8.size x6]) (E8.one _) ?_))
  exact bodyPost_ret (v := .agg (E8.mk D S k b (-1) (0)).c) (results_cell_row rfl _ _ w.heap.size 32 (E8.mk D S k b (-1) (0)).c (0, 0) _ rfl (HM.out.row 0 rfl) Try.underlying32 rfl (e8_info x6)) rfl ⟨HM.out.below, rfl⟩
end Go.Proofs.Ytphdlldmeniihaa
