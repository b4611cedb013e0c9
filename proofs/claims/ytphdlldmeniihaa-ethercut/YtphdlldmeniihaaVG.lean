/- ether.parsed: walked, frames with a tag, whole. -/
import Derived.Test.YtphdlldmeniihaaVD
namespace Go.Proofs.Ytphdlldmeniihaa
open Go.RowKit
set_option maxRecDepth 20000 in
set_option maxHeartbeats 2000000 in
theorem parsed_tag_vlan (s : ByteArray) (h : 18 ≤ s.size) (hk : wd s 12 = 33024) (h1 : wd s 14 / 4096 % 2 = 0) (V Q : Nat) (hV : wd s 14 % 4096 = V) (hQ : wd s 14 / 8192 = Q) (hm : s.size ≤ 1518) (k : Int) (b : ByteArray) (hcn : ∀ W, Calls Try.prog 22 #[.int .i64 (wd s 16 : Int), .string (s.extract 18 s.size)] W fun e w' => e = .returned (.tuple #[.int .i64 k, .string b]) ∧ Below W.heap.size W w') (hv : V = 4095) (D S : List UInt8) (hD : s.data.toList.take 6 = D) (hS : (s.extract 6 s.size).data.toList.take 6 = S) (w : World) :
    Calls Try.prog 17 #[.string s] w fun e w' => Below w.heap.size w w' ∧ e = thrown 12 := by
  have hc := fun W => word_any s 12 (by omega) (by omega) W
  have ht := fun W => readTag_ok s (by omega) h1 W
  rw [hV, hQ] at ht
  rw [hk] at hc
  have hc2 := fun W => word_any s 16 (by omega) (by omega) W
  clear h1 hV hQ hk
  generalize wd s 16 = K at hc2 hcn
  have HC := Lib.hid hc
  have HT := Lib.hid ht
  have HC2 := Lib.hid hc2
  clear hc ht hc2
  have t18 : (18 : Int) ≤ (s.size : Int) := by omega
  have HN := Lib.hid hcn
  clear hcn
  have tm : decide ((s.size : Int) ≤ 1518) = true := by simp; omega
  have t14 : (14 : Int) ≤ (s.size : Int) := by omega
  have tv : decide ((V : Int) ≤ 4094) = false := by simp; omega
  clear hv
  have M : Mem w [(w.heap.size, 32, ez.c), (w.heap.size + 1, 32, e0.c)] ((w.alloc (.cells ez.c 32)).alloc (.cells e0.c 32)) :=
    ((Mem.init w).alloc _ rfl _ _).alloc _ (by simp) _ _
  have hs6 : 6 ≤ (s.extract 6 s.size).size := by rw [ByteArray.size_extract]; omega
  have x1 : (E8.mk D o6 0 ⟨#[]⟩ (-1) 0).Six := ⟨by rw [← hD]; simp only [List.length_take, len_list]; omega, rfl⟩
  have x2 : (E8.mk D S 0 ⟨#[]⟩ (-1) 0).Six := ⟨x1.d, by rw [← hS]; simp only [List.length_take, len_list]; omega⟩
  have HD := Lib.hid hD
  have HS := Lib.hid hS
  clear hD hS
  go_enter Try.func17, Try.ntmps17
  go_upto_region 3 with (first
    | (go_at_call 19; refine (demand_any _ _ _).mono ?_; rintro e w1 ⟨he, rfl⟩; first | (replace he := he.trans demanded_yes; subst he) | (replace he := he.trans demanded_no; subst he)))
  change Code.wp _ _ _ _ ((w.alloc (.cells ez.c 32)).alloc (.cells e0.c 32))
  generalize (w.alloc (.cells ez.c 32)).alloc (.cells e0.c 32) = W0 at M ⊢
  have hcp := copy_dst (M.row 1 rfl) e0_six s (by omega) HD.out
  replace M := M.store 1 rfl (E8.mk D o6 0 ⟨#[]⟩ (-1) 0).c
  simp only [List.set_cons_zero, List.set_cons_succ] at M
  generalize W0.setRow (w.heap.size + 1) (E8.mk D o6 0 ⟨#[]⟩ (-1) 0).c = W1 at hcp M
  go_upto_region 4 with fail
  clear hcp
  refine wp_region_noPanic ?_
  refine wp_region_flow (fin := ?fin1) 5 1 (by kernel_rfl) [.inl (.pointer (some ⟨w.heap.size + 1, 0, none⟩)),
    .inl (.pointer (some ⟨w.heap.size + 1, 6, none⟩)),
    .inl (.slice (some ⟨w.heap.size + 1, 6, none⟩) 6 6),
    .inl (.string s),
    .inl (.string (s.extract 6 s.size))] rfl rfl (by kernel_rfl) ?hfin1 ?hE1 ?hend1
  case hfin1 =>
    intro G
    simp only [flowAll, flowVal, Act.put, List.setIfInBounds_toArray, List.set_cons_zero, List.set_cons_succ]
    exact rfl
  case hE1 =>
    intro G
    refine ⟨Or.inr (fun W hB => known_val rfl (by go_simp)),
      Or.inr (fun W hB => known_val rfl (by go_simp)),
      Or.inr (fun W hB => known_val rfl (by go_simp)),
      Or.inr (fun W hB => known_val rfl (by go_simp)),
      Or.inr (fun W hB => known_val rfl (by go_simp; intro h9; omega)), trivial⟩
  intro G W hB hM
  replace M := M.drew.step hB
  clear hB hM G
  have hcp := copy_src (M.row 1 rfl) x1 (s.extract 6 s.size) hs6 HS.out
  replace M := M.store 1 rfl (E8.mk D S 0 ⟨#[]⟩ (-1) 0).c
  simp only [List.set_cons_zero, List.set_cons_succ] at M
  generalize W.setRow (w.heap.size + 1) (E8.mk D S 0 ⟨#[]⟩ (-1) 0).c = W2 at hcp M
  refine val0 5 20 (.int .i64 6) W2 _ (by kernel_rfl) rfl rfl rfl (by go_simp) ?_
  simp only [Act.put]
  refine wpAny_end (by kernel_rfl) ?_ _
  refine NoPanic.normal ?_
  clear hcp W W0 W1
  have c14 := (M.row 1 rfl).fv x2
  have f14 := (M.row 1 rfl).frozen 14
  have M2 := M.setCell 1 rfl 14 (.int .i64 (V : Int))
  rw [E8.set_v x2] at M2
  simp only [List.set_cons_zero, List.set_cons_succ] at M2
  have x3 : (E8.mk D S 0 ⟨#[]⟩ (V : Int) 0).Six := ⟨x2.d, x2.s⟩
  have c15 := (M2.row 1 rfl).fp x3
  have f15 := (M2.row 1 rfl).frozen 15
  have M3 := M2.setCell 1 rfl 15 (.int .i64 (Q : Int))
  rw [E8.set_p x3] at M3
  simp only [List.set_cons_zero, List.set_cons_succ] at M3
  have x4 : (E8.mk D S 0 ⟨#[]⟩ (V : Int) (Q : Int)).Six := ⟨x2.d, x2.s⟩
  have HM3 := Lib.hid M3
  clear M M2 M3
  go_upto_region 10 with (first
    | (go_at_call 20; refine (HC.out _).mono ?_; rintro e w1 ⟨rfl, rfl⟩)
    | (go_at_call 21; refine (HT.out _).mono ?_; rintro e w1 ⟨rfl, rfl⟩)
    | (go_at_call 19; refine (demand_any _ _ _).mono ?_; rintro e w1 ⟨he, rfl⟩; first | (replace he := he.trans demanded_yes; subst he) | (replace he := he.trans demanded_no; subst he)))
  have M := HM3.out
  clear HM3
  clear c14 c15 f14 f15
  refine wp_region_freePanic ?_
  refine wp_region_any rfl ?_
  refine take0 0 38 (.string s) _ rfl (by kernel_rfl) (by kernel_rfl) (by kernel_rfl) (fun _ _ _ h a' ha => h a' ha) rfl rfl (fun w' => by go_simp) ?_
  simp only [Act.put, List.setIfInBounds_toArray, List.set_cons_zero, List.set_cons_succ]
  refine take0 1 39 (.int .i64 18) _ rfl (by kernel_rfl) (by kernel_rfl) (by kernel_rfl) (fun _ _ _ h a' ha => h a' ha) rfl rfl (fun w' => by go_simp) ?_
  simp only [Act.put, List.setIfInBounds_toArray, List.set_cons_zero, List.set_cons_succ]
  refine take0 2 40 (.int .i64 16) _ rfl (by kernel_rfl) (by kernel_rfl) (by kernel_rfl) (fun _ _ _ h a' ha => h a' ha) rfl rfl (fun w' => by go_simp; rfl) ?_
  simp only [Act.put, List.setIfInBounds_toArray, List.set_cons_zero, List.set_cons_succ]
  refine take0 4 42 (.string s) _ rfl (by kernel_rfl) (by kernel_rfl) (by kernel_rfl) (fun _ _ _ h a' ha => h a' ha) rfl rfl (fun w' => by go_simp) ?_
  simp only [Act.put, List.setIfInBounds_toArray, List.set_cons_zero, List.set_cons_succ]
  refine take0 5 43 (.int .i64 18) _ rfl (by kernel_rfl) (by kernel_rfl) (by kernel_rfl) (fun _ _ _ h a' ha => h a' ha) rfl rfl (fun w' => by go_simp) ?_
  simp only [Act.put, List.setIfInBounds_toArray, List.set_cons_zero, List.set_cons_succ]
  refine take0 6 44 (.string (s.extract 18 s.size)) _ rfl (by kernel_rfl) (by kernel_rfl) (by kernel_rfl) (fun _ _ _ h a' ha => h a' ha) rfl rfl (fun w' => by go_simp) ?_
  simp only [Act.put, List.setIfInBounds_toArray, List.set_cons_zero, List.set_cons_succ]
  refine callP 3 41 20 #[.string s, .int .i64 16] _ (by kernel_rfl) rfl rfl rfl (by go_simp) (HC2.out _) ?_
  rintro e w3 ⟨rfl, rfl⟩
  refine Or.inl ⟨_, rfl, ?_⟩
  simp only [Act.put, List.setIfInBounds_toArray, List.set_cons_zero, List.set_cons_succ]
  refine callP 7 45 22 #[.int .i64 (K : Int), .string (s.extract 18 s.size)] _ (by kernel_rfl) rfl rfl rfl (by go_simp) (HN.out _) ?_
  rintro e w4 ⟨rfl, hb4⟩
  refine Or.inl ⟨_, rfl, ?_⟩
  simp only [Act.put, List.setIfInBounds_toArray, List.set_cons_zero, List.set_cons_succ]
  replace M := M.drew.step hb4
  clear hb4
  refine take0 8 37 (.tuple #[.int .i64 k, .string b]) _ rfl (by kernel_rfl) (by kernel_rfl) (by kernel_rfl) (fun _ _ _ h a' ha => h a' ha) rfl rfl (fun w' => by go_simp) ?_
  simp only [Act.put, List.setIfInBounds_toArray, List.set_cons_zero, List.set_cons_succ]
  refine take0 9 46 (.int .i64 k) _ rfl (by kernel_rfl) (by kernel_rfl) (by kernel_rfl) (fun _ _ _ h a' ha => h a' ha) rfl rfl (fun w' => by go_simp) ?_
  simp only [Act.put, List.setIfInBounds_toArray, List.set_cons_zero, List.set_cons_succ]
  refine take0 10 47 (.string b) _ rfl (by kernel_rfl) (by kernel_rfl) (by kernel_rfl) (fun _ _ _ h a' ha => h a' ha) rfl rfl (fun w' => by go_simp) ?_
  simp only [Act.put, List.setIfInBounds_toArray, List.set_cons_zero, List.set_cons_succ]
  refine take0 11 48 (.pointer (some ⟨w.heap.size + 1, 0, none⟩)) _ rfl (by kernel_rfl) (by kernel_rfl) (by kernel_rfl) (fun _ _ _ h a' ha => h a' ha) rfl rfl (fun w' => by go_simp) ?_
  simp only [Act.put, List.setIfInBounds_toArray, List.set_cons_zero, List.set_cons_succ]
  refine take0 12 49 (.pointer (some ⟨w.heap.size + 1, 12, none⟩)) _ rfl (by kernel_rfl) (by kernel_rfl) (by kernel_rfl) (fun _ _ _ h a' ha => h a' ha) rfl rfl (fun w' => by go_simp) ?_
  simp only [Act.put, List.setIfInBounds_toArray, List.set_cons_zero, List.set_cons_succ]
  have c12 := (M.row 1 rfl).fk x4
  have f12 := (M.row 1 rfl).frozen 12
  replace M := M.setCell 1 rfl 12 (.int .i64 k)
  rw [E8.set_k x4] at M
  simp only [List.set_cons_zero, List.set_cons_succ] at M
  refine only0 13 (w4.setCell ⟨w.heap.size + 1, 12, none⟩ (.int .i64 k)) _ (by kernel_rfl) rfl rfl rfl (by go_simp) ?_
  clear c12 f12
  generalize w4.setCell ⟨w.heap.size + 1, 12, none⟩ (.int .i64 k) = W6 at M ⊢
  simp only [Act.put]
  refine take0 14 50 (.pointer (some ⟨w.heap.size + 1, 0, none⟩)) _ rfl (by kernel_rfl) (by kernel_rfl) (by kernel_rfl) (fun _ _ _ h a' ha => h a' ha) rfl rfl (fun w' => by go_simp) ?_
  simp only [Act.put, List.setIfInBounds_toArray, List.set_cons_zero, List.set_cons_succ]
  refine take0 15 51 (.pointer (some ⟨w.heap.size + 1, 13, none⟩)) _ rfl (by kernel_rfl) (by kernel_rfl) (by kernel_rfl) (fun _ _ _ h a' ha => h a' ha) rfl rfl (fun w' => by go_simp) ?_
  simp only [Act.put, List.setIfInBounds_toArray, List.set_cons_zero, List.set_cons_succ]
  have x5 : (E8.mk D S k ⟨#[]⟩ ((V : Int)) ((Q : Int))).Six := ⟨x2.d, x2.s⟩
  have c13 := (M.row 1 rfl).fb x5
  have f13 := (M.row 1 rfl).frozen 13
  replace M := M.setCell 1 rfl 13 (.string b)
  rw [E8.set_b x5] at M
  simp only [List.set_cons_zero, List.set_cons_succ] at M
  refine only0 16 (W6.setCell ⟨w.heap.size + 1, 13, none⟩ (.string b)) _ (by kernel_rfl) rfl rfl rfl (by go_simp) ?_
  clear c13 f13
  generalize W6.setCell ⟨w.heap.size + 1, 13, none⟩ (.string b) = W7 at M ⊢
  have x6 : (E8.mk D S k b ((V : Int)) ((Q : Int))).Six := ⟨x2.d, x2.s⟩
  have cv := (M.row 1 rfl).fv x6
  simp only [Act.put]
  refine wpAny_end (by kernel_rfl) ?_ _
  refine FreePanic.normal ?_
  have HM := Lib.hid M
  clear M
  go_wp2_with (first
    | (go_at_call 19; refine (demand_any _ _ _).mono ?_; rintro e w1 ⟨he, rfl⟩; first | (replace he := he.trans demanded_yes; subst he) | (replace he := he.trans demanded_no; subst he)))
  exact ⟨rfl, HM.out.below, rfl⟩
set_option maxRecDepth 20000 in
set_option maxHeartbeats 2000000 in
theorem parsed_tag_ok (s : ByteArray) (h : 18 ≤ s.size) (hk : wd s 12 = 33024) (h1 : wd s 14 / 4096 % 2 = 0) (V Q : Nat) (hV : wd s 14 % 4096 = V) (hQ : wd s 14 / 8192 = Q) (hm : s.size ≤ 1518) (k : Int) (b : ByteArray) (hcn : ∀ W, Calls Try.prog 22 #[.int .i64 (wd s 16 : Int), .string (s.extract 18 s.size)] W fun e w' => e = .returned (.tuple #[.int .i64 k, .string b]) ∧ Below W.heap.size W w') (hv : V ≤ 4094) (D S : List UInt8) (hD : s.data.toList.take 6 = D) (hS : (s.extract 6 s.size).data.toList.take 6 = S) (w : World) :
    Calls Try.prog 17 #[.string s] w fun e w' => Below w.heap.size w w' ∧ e = .returned (.agg (E8.mk D S k b ((V : Int)) ((Q : Int))).c) := by
  have hc := fun W => word_any s 12 (by omega) (by omega) W
  have ht := fun W => readTag_ok s (by omega) h1 W
  rw [hV, hQ] at ht
  rw [hk] at hc
  have hc2 := fun W => word_any s 16 (by omega) (by omega) W
  clear h1 hV hQ hk
  generalize wd s 16 = K at hc2 hcn
  have HC := Lib.hid hc
  have HT := Lib.hid ht
  have HC2 := Lib.hid hc2
  clear hc ht hc2
  have t18 : (18 : Int) ≤ (s.size : Int) := by omega
  have HN := Lib.hid hcn
  clear hcn
  have tm : decide ((s.size : Int) ≤ 1518) = true := by simp; omega
  have t14 : (14 : Int) ≤ (s.size : Int) := by omega
  have tv : (V : Int) ≤ 4094 := by omega
  have M : Mem w [(w.heap.size, 32, ez.c), (w.heap.size + 1, 32, e0.c)] ((w.alloc (.cells ez.c 32)).alloc (.cells e0.c 32)) :=
    ((Mem.init w).alloc _ rfl _ _).alloc _ (by simp) _ _
  have hs6 : 6 ≤ (s.extract 6 s.size).size := by rw [ByteArray.size_extract]; omega
  have x1 : (E8.mk D o6 0 ⟨#[]⟩ (-1) 0).Six := ⟨by rw [← hD]; simp only [List.length_take, len_list]; omega, rfl⟩
  have x2 : (E8.mk D S 0 ⟨#[]⟩ (-1) 0).Six := ⟨x1.d, by rw [← hS]; simp only [List.length_take, len_list]; omega⟩
  have HD := Lib.hid hD
  have HS := Lib.hid hS
  clear hD hS
  go_enter Try.func17, Try.ntmps17
  go_upto_region 3 with (first
    | (go_at_call 19; refine (demand_any _ _ _).mono ?_; rintro e w1 ⟨he, rfl⟩; first | (replace he := he.trans demanded_yes; subst he) | (replace he := he.trans demanded_no; subst he)))
  change Code.wp _ _ _ _ ((w.alloc (.cells ez.c 32)).alloc (.cells e0.c 32))
  generalize (w.alloc (.cells ez.c 32)).alloc (.cells e0.c 32) = W0 at M ⊢
  have hcp := copy_dst (M.row 1 rfl) e0_six s (by omega) HD.out
  replace M := M.store 1 rfl (E8.mk D o6 0 ⟨#[]⟩ (-1) 0).c
  simp only [List.set_cons_zero, List.set_cons_succ] at M
  generalize W0.setRow (w.heap.size + 1) (E8.mk D o6 0 ⟨#[]⟩ (-1) 0).c = W1 at hcp M
  go_upto_region 4 with fail
  clear hcp
  refine wp_region_noPanic ?_
  refine wp_region_flow (fin := ?fin2) 5 1 (by kernel_rfl) [.inl (.pointer (some ⟨w.heap.size + 1, 0, none⟩)),
    .inl (.pointer (some ⟨w.heap.size + 1, 6, none⟩)),
    .inl (.slice (some ⟨w.heap.size + 1, 6, none⟩) 6 6),
    .inl (.string s),
    .inl (.string (s.extract 6 s.size))] rfl rfl (by kernel_rfl) ?hfin2 ?hE2 ?hend2
  case hfin2 =>
    intro G
    simp only [flowAll, flowVal, Act.put, List.setIfInBounds_toArray, List.set_cons_zero, List.set_cons_succ]
    exact rfl
  case hE2 =>
    intro G
    refine ⟨Or.inr (fun W hB => known_val rfl (by go_simp)),
      Or.inr (fun W hB => known_val rfl (by go_simp)),
      Or.inr (fun W hB => known_val rfl (by go_simp)),
      Or.inr (fun W hB => known_val rfl (by go_simp)),
      Or.inr (fun W hB => known_val rfl (by go_simp; intro h9; omega)), trivial⟩
  intro G W hB hM
  replace M := M.drew.step hB
  clear hB hM G
  have hcp := copy_src (M.row 1 rfl) x1 (s.extract 6 s.size) hs6 HS.out
  replace M := M.store 1 rfl (E8.mk D S 0 ⟨#[]⟩ (-1) 0).c
  simp only [List.set_cons_zero, List.set_cons_succ] at M
  generalize W.setRow (w.heap.size + 1) (E8.mk D S 0 ⟨#[]⟩ (-1) 0).c = W2 at hcp M
  refine val0 5 20 (.int .i64 6) W2 _ (by kernel_rfl) rfl rfl rfl (by go_simp) ?_
  simp only [Act.put]
  refine wpAny_end (by kernel_rfl) ?_ _
  refine NoPanic.normal ?_
  clear hcp W W0 W1
  have c14 := (M.row 1 rfl).fv x2
  have f14 := (M.row 1 rfl).frozen 14
  have M2 := M.setCell 1 rfl 14 (.int .i64 (V : Int))
  rw [E8.set_v x2] at M2
  simp only [List.set_cons_zero, List.set_cons_succ] at M2
  have x3 : (E8.mk D S 0 ⟨#[]⟩ (V : Int) 0).Six := ⟨x2.d, x2.s⟩
  have c15 := (M2.row 1 rfl).fp x3
  have f15 := (M2.row 1 rfl).frozen 15
  have M3 := M2.setCell 1 rfl 15 (.int .i64 (Q : Int))
  rw [E8.set_p x3] at M3
  simp only [List.set_cons_zero, List.set_cons_succ] at M3
  have x4 : (E8.mk D S 0 ⟨#[]⟩ (V : Int) (Q : Int)).Six := ⟨x2.d, x2.s⟩
  have HM3 := Lib.hid M3
  clear M M2 M3
  go_upto_region 10 with (first
    | (go_at_call 20; refine (HC.out _).mono ?_; rintro e w1 ⟨rfl, rfl⟩)
    | (go_at_call 21; refine (HT.out _).mono ?_; rintro e w1 ⟨rfl, rfl⟩)
    | (go_at_call 19; refine (demand_any _ _ _).mono ?_; rintro e w1 ⟨he, rfl⟩; first | (replace he := he.trans demanded_yes; subst he) | (replace he := he.trans demanded_no; subst he)))
  have M := HM3.out
  clear HM3
  clear c14 c15 f14 f15
  refine wp_region_freePanic ?_
  refine wp_region_any rfl ?_
  refine take0 0 38 (.string s) _ rfl (by kernel_rfl) (by kernel_rfl) (by kernel_rfl) (fun _ _ _ h a' ha => h a' ha) rfl rfl (fun w' => by go_simp) ?_
  simp only [Act.put, List.setIfInBounds_toArray, List.set_cons_zero, List.set_cons_succ]
  refine take0 1 39 (.int .i64 18) _ rfl (by kernel_rfl) (by kernel_rfl) (by kernel_rfl) (fun _ _ _ h a' ha => h a' ha) rfl rfl (fun w' => by go_simp) ?_
  simp only [Act.put, List.setIfInBounds_toArray, List.set_cons_zero, List.set_cons_succ]
  refine take0 2 40 (.int .i64 16) _ rfl (by kernel_rfl) (by kernel_rfl) (by kernel_rfl) (fun _ _ _ h a' ha => h a' ha) rfl rfl (fun w' => by go_simp; rfl) ?_
  simp only [Act.put, List.setIfInBounds_toArray, List.set_cons_zero, List.set_cons_succ]
  refine take0 4 42 (.string s) _ rfl (by kernel_rfl) (by kernel_rfl) (by kernel_rfl) (fun _ _ _ h a' ha => h a' ha) rfl rfl (fun w' => by go_simp) ?_
  simp only [Act.put, List.setIfInBounds_toArray, List.set_cons_zero, List.set_cons_succ]
  refine take0 5 43 (.int .i64 18) _ rfl (by kernel_rfl) (by kernel_rfl) (by kernel_rfl) (fun _ _ _ h a' ha => h a' ha) rfl rfl (fun w' => by go_simp) ?_
  simp only [Act.put, List.setIfInBounds_toArray, List.set_cons_zero, List.set_cons_succ]
  refine take0 6 44 (.string (s.extract 18 s.size)) _ rfl (by kernel_rfl) (by kernel_rfl) (by kernel_rfl) (fun _ _ _ h a' ha => h a' ha) rfl rfl (fun w' => by go_simp) ?_
  simp only [Act.put, List.setIfInBounds_toArray, List.set_cons_zero, List.set_cons_succ]
  refine callP 3 41 20 #[.string s, .int .i64 16] _ (by kernel_rfl) rfl rfl rfl (by go_simp) (HC2.out _) ?_
  rintro e w3 ⟨rfl, rfl⟩
  refine Or.inl ⟨_, rfl, ?_⟩
  simp only [Act.put, List.setIfInBounds_toArray, List.set_cons_zero, List.set_cons_succ]
  refine callP 7 45 22 #[.int .i64 (K : Int), .string (s.extract 18 s.size)] _ (by kernel_rfl) rfl rfl rfl (by go_simp) (HN.out _) ?_
  rintro e w4 ⟨rfl, hb4⟩
  refine Or.inl ⟨_, rfl, ?_⟩
  simp only [Act.put, List.setIfInBounds_toArray, List.set_cons_zero, List.set_cons_succ]
  replace M := M.drew.step hb4
  clear hb4
  refine take0 8 37 (.tuple #[.int .i64 k, .string b]) _ rfl (by kernel_rfl) (by kernel_rfl) (by kernel_rfl) (fun _ _ _ h a' ha => h a' ha) rfl rfl (fun w' => by go_simp) ?_
  simp only [Act.put, List.setIfInBounds_toArray, List.set_cons_zero, List.set_cons_succ]
  refine take0 9 46 (.int .i64 k) _ rfl (by kernel_rfl) (by kernel_rfl) (by kernel_rfl) (fun _ _ _ h a' ha => h a' ha) rfl rfl (fun w' => by go_simp) ?_
  simp only [Act.put, List.setIfInBounds_toArray, List.set_cons_zero, List.set_cons_succ]
  refine take0 10 47 (.string b) _ rfl (by kernel_rfl) (by kernel_rfl) (by kernel_rfl) (fun _ _ _ h a' ha => h a' ha) rfl rfl (fun w' => by go_simp) ?_
  simp only [Act.put, List.setIfInBounds_toArray, List.set_cons_zero, List.set_cons_succ]
  refine take0 11 48 (.pointer (some ⟨w.heap.size + 1, 0, none⟩)) _ rfl (by kernel_rfl) (by kernel_rfl) (by kernel_rfl) (fun _ _ _ h a' ha => h a' ha) rfl rfl (fun w' => by go_simp) ?_
  simp only [Act.put, List.setIfInBounds_toArray, List.set_cons_zero, List.set_cons_succ]
  refine take0 12 49 (.pointer (some ⟨w.heap.size + 1, 12, none⟩)) _ rfl (by kernel_rfl) (by kernel_rfl) (by kernel_rfl) (fun _ _ _ h a' ha => h a' ha) rfl rfl (fun w' => by go_simp) ?_
  simp only [Act.put, List.setIfInBounds_toArray, List.set_cons_zero, List.set_cons_succ]
  have c12 := (M.row 1 rfl).fk x4
  have f12 := (M.row 1 rfl).frozen 12
  replace M := M.setCell 1 rfl 12 (.int .i64 k)
  rw [E8.set_k x4] at M
  simp only [List.set_cons_zero, List.set_cons_succ] at M
  refine only0 13 (w4.setCell ⟨w.heap.size + 1, 12, none⟩ (.int .i64 k)) _ (by kernel_rfl) rfl rfl rfl (by go_simp) ?_
  clear c12 f12
  generalize w4.setCell ⟨w.heap.size + 1, 12, none⟩ (.int .i64 k) = W6 at M ⊢
  simp only [Act.put]
  refine take0 14 50 (.pointer (some ⟨w.heap.size + 1, 0, none⟩)) _ rfl (by kernel_rfl) (by kernel_rfl) (by kernel_rfl) (fun _ _ _ h a' ha => h a' ha) rfl rfl (fun w' => by go_simp) ?_
  simp only [Act.put, List.setIfInBounds_toArray, List.set_cons_zero, List.set_cons_succ]
  refine take0 15 51 (.pointer (some ⟨w.heap.size + 1, 13, none⟩)) _ rfl (by kernel_rfl) (by kernel_rfl) (by kernel_rfl) (fun _ _ _ h a' ha => h a' ha) rfl rfl (fun w' => by go_simp) ?_
  simp only [Act.put, List.setIfInBounds_toArray, List.set_cons_zero, List.set_cons_succ]
  have x5 : (E8.mk D S k ⟨#[]⟩ ((V : Int)) ((Q : Int))).Six := ⟨x2.d, x2.s⟩
  have c13 := (M.row 1 rfl).fb x5
  have f13 := (M.row 1 rfl).frozen 13
  replace M := M.setCell 1 rfl 13 (.string b)
  rw [E8.set_b x5] at M
  simp only [List.set_cons_zero, List.set_cons_succ] at M
  refine only0 16 (W6.setCell ⟨w.heap.size + 1, 13, none⟩ (.string b)) _ (by kernel_rfl) rfl rfl rfl (by go_simp) ?_
  clear c13 f13
  generalize W6.setCell ⟨w.heap.size + 1, 13, none⟩ (.string b) = W7 at M ⊢
  have x6 : (E8.mk D S k b ((V : Int)) ((Q : Int))).Six := ⟨x2.d, x2.s⟩
  have cv := (M.row 1 rfl).fv x6
  simp only [Act.put]
  refine wpAny_end (by kernel_rfl) ?_ _
  refine FreePanic.normal ?_
  have r1 := M.row 1 rfl
  have r0 := M.row 0 rfl
  replace M := M.store 0 rfl (E8.mk D S k b ((V : Int)) ((Q : Int))).c
  have HM := Lib.hid M
  clear M
  go_wp2_with (first
    | (go_at_call 19; refine (demand_any _ _ _).mono ?_; rintro e w1 ⟨he, rfl⟩; first | (replace he := he.trans demanded_yes; subst he) | (replace he := he.trans demanded_no; subst he))
    | (refine wpList_load_row rfl 32 (.tmp 3) rfl (w.heap.size + 1) rfl 32 (E8.mk D S k b ((V : Int)) ((Q : Int))).c (0, 0) _ r1 Try.underlying32 rfl (e8_info x6) ?_)
    | (refine wpList_store_row rfl 32 (.tmp 2) (.tmp 56) rfl w.heap.size (E8.mk D S k b ((V : Int)) ((Q : Int))).c rfl rfl 32 ez.c r0 (e8_info x6) (by rw [E8.size ez_six, E8.size x6]) (E8.one _) ?_))
  exact bodyPost_ret (v := .agg (E8.mk D S k b ((V : Int)) ((Q : Int))).c) (results_cell_row rfl _ _ w.heap.size 32 (E8.mk D S k b ((V : Int)) ((Q : Int))).c (0, 0) _ rfl (HM.out.row 0 rfl) Try.underlying32 rfl (e8_info x6)) rfl ⟨HM.out.below, rfl⟩
end Go.Proofs.Ytphdlldmeniihaa
