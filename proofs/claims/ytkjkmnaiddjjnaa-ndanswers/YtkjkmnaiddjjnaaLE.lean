/- nd.demand, readHead, readMessage: walked. -/
import Derived.Test.YtkjkmnaiddjjnaaLC
namespace Go.Proofs.Ytkjkmnaiddjjnaa
open Go.RowKit
theorem demand10_any (b : Bool) (n : Int) (w : World) : Calls Try.prog 29 #[.bool b, .int .i64 n] w fun e w' => e = demanded b n ∧ w' = w := by
  cases b with
  | true =>
    go_enter Try.func29, Try.ntmps29
    go_wp2
    go_end0
    exact ⟨rfl, rfl⟩
  | false =>
    go_enter Try.func29, Try.ntmps29
    go_wp2
    exact ⟨rfl, rfl, rfl⟩
theorem ext_cut2 (s : ByteArray) (a b : Nat) : (s.extract a b).data.toList = cut9 s a (b - a) := by
  unfold cut9
  rw [extract_list]
set_option maxHeartbeats 1000000 in
theorem readHead_ver (h : ByteArray) (hs : h.size = 40) (h1 : bAt h 0 ≠ 96) (w : World) : Calls Try.prog 30 #[.string h] w fun e w' => Below w.heap.size w w' ∧ e = thrown 3 := by
  have M := Mem.init w
  have hc := fun W => numberIn_any (h.extract 4 6) (by rw [ByteArray.size_extract]; omega) W
  rw [show (h.extract 4 6).size = 2 from by rw [ByteArray.size_extract]; omega, numP_two h 4] at hc
  have hn := wd_lt h 4
  generalize wd h 4 = n at *
  have HC := Lib.hid hc
  clear hc
  have t40 : (6 : Int) ≤ (h.size : Int) := by omega
  have t8 : (8 : Int) ≤ (h.size : Int) := by omega
  have t1 : 0 < h.size := by omega
  obtain ⟨b, hb⟩ : ∃ b, (bAt h 0).toNat = b := ⟨_, rfl⟩
  have hb96 : ((b : Int) == 96) = false := by
    rw [← hb]
    simp only [beq_eq_false_iff_ne]
    intro e
    exact h1 (UInt8.toNat_inj.1 (by show (bAt h 0).toNat = 96; omega))
  have HB := Lib.hid hb
  clear hb h1
  clear hs
  go_enter Try.func30, Try.ntmps30
  go_upto_region 2 with (go_at_call 34; refine (HC.out _).mono ?_; rintro e w1 ⟨rfl, rfl⟩)
  refine wp_region_freePanic ?_
  refine wp_region_flow (fin := ?fin1) 10 1 (by kernel_rfl) [.inl (.string h),
    .inl (.int .u8 (b : Int)),
    .inl (.bool false),
    .inl (.bool false),
    .inl undef,
    .inl undef,
    .inl undef,
    .inl undef,
    .inl undef,
    .inl (.bool false)] rfl rfl (by kernel_rfl) ?hfin1 ?hE1 ?hend1
  case hfin1 =>
    intro G
    simp only [flowAll, flowVal, Act.put, List.setIfInBounds_toArray, List.set_cons_zero, List.set_cons_succ]
    exact rfl
  case hE1 =>
    intro G
    refine ⟨Or.inr (fun W hB hR => known_val rfl (by go_simp)),
      Or.inr (fun W hB hR => known_val rfl (by rw [← HB.out]; exact exec_index (.tmp 11) (.const (.int .i64 0)) h 0 t1 rfl rfl rfl)),
      Or.inr (fun W hB hR => known_val rfl (by go_simp)),
      Or.inr (fun W hB hR => known_val rfl (by go_simp)),
      Or.inr (fun W hB hR => Or.inr ⟨rfl, rfl⟩),
      Or.inr (fun W hB hR => Or.inr ⟨rfl, rfl⟩),
      Or.inr (fun W hB hR => Or.inr ⟨rfl, rfl⟩),
      Or.inr (fun W hB hR => Or.inr ⟨rfl, rfl⟩),
      Or.inr (fun W hB hR => Or.inr ⟨rfl, rfl⟩),
      Or.inr (fun W hB hR => known_val rfl (by go_simp)), trivial⟩
  intro G W hB hM
  replace M := M.drew.step hB
  clear hB hM G
  refine callP 10 21 29 #[.bool false, .int .i64 3] _ (by kernel_rfl) rfl rfl rfl (by go_simp) (demand10_any _ _ _) ?_
  rintro e w3 ⟨rfl, rfl⟩
  refine Or.inr ⟨_, rfl, ?_⟩
  intro a' ha
  go_wp2
  exact ⟨ha, M.below, rfl⟩
set_option maxHeartbeats 1000000 in
theorem readHead_sizes (h : ByteArray) (hs : h.size = 40) (h1 : bAt h 0 = 96) (h2 : (cut9 h 4 4 == sizesL (wd h 4)) = false) (w : World) : Calls Try.prog 30 #[.string h] w fun e w' => Below w.heap.size w w' ∧ e = thrown 3 := by
  have M := Mem.init w
  have hc := fun W => numberIn_any (h.extract 4 6) (by rw [ByteArray.size_extract]; omega) W
  rw [show (h.extract 4 6).size = 2 from by rw [ByteArray.size_extract]; omega, numP_two h 4] at hc
  have hn := wd_lt h 4
  have hq := fun W => sizes_any (wd h 4) hn W
  have he2 : ((h.extract 4 8).data.toList == (⟨(sizesL (wd h 4)).toArray⟩ : ByteArray).data.toList) = false := by
    rw [ext_cut2, str_list]
    exact h2
  clear h2
  generalize wd h 4 = n at *
  generalize (⟨(sizesL n).toArray⟩ : ByteArray) = T at hq he2
  have HQ := Lib.hid hq
  have HE := Lib.hid he2
  clear hq he2
  have HC := Lib.hid hc
  clear hc
  have t40 : (6 : Int) ≤ (h.size : Int) := by omega
  have t8 : (8 : Int) ≤ (h.size : Int) := by omega
  have t1 : 0 < h.size := by omega
  obtain ⟨b, hb⟩ : ∃ b, (bAt h 0).toNat = b := ⟨_, rfl⟩
  have hb96 : ((b : Int) == 96) = true := by
    rw [← hb]
    rw [h1]; rfl
  have HB := Lib.hid hb
  clear hb h1
  clear hs
  go_enter Try.func30, Try.ntmps30
  go_upto_region 2 with (go_at_call 34; refine (HC.out _).mono ?_; rintro e w1 ⟨rfl, rfl⟩)
  refine wp_region_freePanic ?_
  refine wp_region_flow (fin := ?fin2) 10 1 (by kernel_rfl) [.inl (.string h),
    .inl (.int .u8 (b : Int)),
    .inl (.bool true),
    .inl (.bool true),
    .inl (.string h),
    .inl (.string (h.extract 4 8)),
    .inl (.int .i64 (n : Int)),
    .inl (.string T),
    .inl (.bool false),
    .inl (.bool false)] rfl rfl (by kernel_rfl) ?hfin2 ?hE2 ?hend2
  case hfin2 =>
    intro G
    simp only [flowAll, flowVal, Act.put, List.setIfInBounds_toArray, List.set_cons_zero, List.set_cons_succ]
    exact rfl
  case hE2 =>
    intro G
    refine ⟨Or.inr (fun W hB hR => known_val rfl (by go_simp)),
      Or.inr (fun W hB hR => known_val rfl (by rw [← HB.out]; exact exec_index (.tmp 11) (.const (.int .i64 0)) h 0 t1 rfl rfl rfl)),
      Or.inr (fun W hB hR => known_val rfl (by go_simp)),
      Or.inr (fun W hB hR => known_val rfl (by go_simp)),
      Or.inr (fun W hB hR => known_val rfl (by go_simp)),
      Or.inr (fun W hB hR => known_val rfl (by go_simp)),
      Or.inr (fun W hB hR => known_val rfl (by go_simp)),
      Or.inr (fun W hB hR => known_call 19 #[.int .i64 (n : Int)] (HQ.out W) rfl (by go_simp)),
      Or.inr (fun W hB hR => known_val rfl (by exact exec_eqS (.tmp 16) (.tmp 18) _ _ false HE.out rfl rfl rfl)),
      Or.inr (fun W hB hR => known_val rfl (by go_simp)), trivial⟩
  intro G W hB hM
  replace M := M.drew.step hB
  clear hB hM G
  refine callP 10 21 29 #[.bool false, .int .i64 3] _ (by kernel_rfl) rfl rfl rfl (by go_simp) (demand10_any _ _ _) ?_
  rintro e w3 ⟨rfl, rfl⟩
  refine Or.inr ⟨_, rfl, ?_⟩
  intro a' ha
  go_wp2
  exact ⟨ha, M.below, rfl⟩
set_option maxHeartbeats 1000000 in
theorem readHead_size (h : ByteArray) (hs : h.size = 40) (h1 : bAt h 0 = 96) (h2 : (cut9 h 4 4 == sizesL (wd h 4)) = true) (h3 : sizeOk (wd h 4) = false) (w : World) : Calls Try.prog 30 #[.string h] w fun e w' => Below w.heap.size w w' ∧ e = thrown 3 := by
  have M := Mem.init w
  have hc := fun W => numberIn_any (h.extract 4 6) (by rw [ByteArray.size_extract]; omega) W
  rw [show (h.extract 4 6).size = 2 from by rw [ByteArray.size_extract]; omega, numP_two h 4] at hc
  have hn := wd_lt h 4
  have hq := fun W => sizes_any (wd h 4) hn W
  have he2 : ((h.extract 4 8).data.toList == (⟨(sizesL (wd h 4)).toArray⟩ : ByteArray).data.toList) = true := by
    rw [ext_cut2, str_list]
    exact h2
  clear h2
  generalize wd h 4 = n at *
  generalize (⟨(sizesL n).toArray⟩ : ByteArray) = T at hq he2
  have HQ := Lib.hid hq
  have HE := Lib.hid he2
  clear hq he2
  have HC := Lib.hid hc
  clear hc
  have t40 : (6 : Int) ≤ (h.size : Int) := by omega
  have t8 : (8 : Int) ≤ (h.size : Int) := by omega
  have t1 : 0 < h.size := by omega
  obtain ⟨b, hb⟩ : ∃ b, (bAt h 0).toNat = b := ⟨_, rfl⟩
  have hb96 : ((b : Int) == 96) = true := by
    rw [← hb]
    rw [h1]; rfl
  have HB := Lib.hid hb
  clear hb h1
  have hs24 : ((n : Int) == 24) = false := by
    unfold sizeOk at h3
    simp only [Bool.or_eq_false_iff, beq_eq_false_iff_ne] at h3
    simp only [beq_eq_false_iff_ne]
    omega
  have hs32 : ((n : Int) == 32) = false := by
    unfold sizeOk at h3
    simp only [Bool.or_eq_false_iff, beq_eq_false_iff_ne] at h3
    simp only [beq_eq_false_iff_ne]
    omega
  clear h3
  clear hs
  go_enter Try.func30, Try.ntmps30
  go_upto_region 2 with (go_at_call 34; refine (HC.out _).mono ?_; rintro e w1 ⟨rfl, rfl⟩)
  refine wp_region_freePanic ?_
  refine wp_region_flow (fin := ?fin3) 10 1 (by kernel_rfl) [.inl (.string h),
    .inl (.int .u8 (b : Int)),
    .inl (.bool true),
    .inl (.bool true),
    .inl (.string h),
    .inl (.string (h.extract 4 8)),
    .inl (.int .i64 (n : Int)),
    .inl (.string T),
    .inl (.bool true),
    .inl (.bool true)] rfl rfl (by kernel_rfl) ?hfin3 ?hE3 ?hend3
  case hfin3 =>
    intro G
    simp only [flowAll, flowVal, Act.put, List.setIfInBounds_toArray, List.set_cons_zero, List.set_cons_succ]
    exact rfl
  case hE3 =>
    intro G
    refine ⟨Or.inr (fun W hB hR => known_val rfl (by go_simp)),
      Or.inr (fun W hB hR => known_val rfl (by rw [← HB.out]; exact exec_index (.tmp 11) (.const (.int .i64 0)) h 0 t1 rfl rfl rfl)),
      Or.inr (fun W hB hR => known_val rfl (by go_simp)),
      Or.inr (fun W hB hR => known_val rfl (by go_simp)),
      Or.inr (fun W hB hR => known_val rfl (by go_simp)),
      Or.inr (fun W hB hR => known_val rfl (by go_simp)),
      Or.inr (fun W hB hR => known_val rfl (by go_simp)),
      Or.inr (fun W hB hR => known_call 19 #[.int .i64 (n : Int)] (HQ.out W) rfl (by go_simp)),
      Or.inr (fun W hB hR => known_val rfl (by exact exec_eqS (.tmp 16) (.tmp 18) _ _ true HE.out rfl rfl rfl)),
      Or.inr (fun W hB hR => known_val rfl (by go_simp)), trivial⟩
  intro G W hB hM
  replace M := M.drew.step hB
  clear hB hM G
  refine callP 10 21 29 #[.bool true, .int .i64 3] _ (by kernel_rfl) rfl rfl rfl (by go_simp) (demand10_any _ _ _) ?_
  rintro e w3 ⟨rfl, rfl⟩
  refine Or.inl ⟨_, rfl, ?_⟩
  simp only [Act.put, List.setIfInBounds_toArray, List.set_cons_zero, List.set_cons_succ]
  refine wpAny_end (by kernel_rfl) ?_ _
  refine FreePanic.normal ?_
  go_wp2_with (go_at_call 29; refine (demand10_any _ _ _).mono ?_; rintro e w1 ⟨he, rfl⟩; first | (replace he := he.trans demanded_yes; subst he) | (replace he := he.trans demanded_no; subst he))
  exact ⟨rfl, M.below, rfl⟩
set_option maxHeartbeats 1000000 in
theorem readHead_ok (h : ByteArray) (hs : h.size = 40) (h1 : bAt h 0 = 96) (h2 : (cut9 h 4 4 == sizesL (wd h 4)) = true) (h3 : sizeOk (wd h 4) = true) (w : World) : Calls Try.prog 30 #[.string h] w fun e w' => Below w.heap.size w w' ∧ e = .returned (.int .i64 (wd h 4 : Int)) := by
  have M := Mem.init w
  have hc := fun W => numberIn_any (h.extract 4 6) (by rw [ByteArray.size_extract]; omega) W
  rw [show (h.extract 4 6).size = 2 from by rw [ByteArray.size_extract]; omega, numP_two h 4] at hc
  have hn := wd_lt h 4
  have hq := fun W => sizes_any (wd h 4) hn W
  have he2 : ((h.extract 4 8).data.toList == (⟨(sizesL (wd h 4)).toArray⟩ : ByteArray).data.toList) = true := by
    rw [ext_cut2, str_list]
    exact h2
  clear h2
  generalize wd h 4 = n at *
  generalize (⟨(sizesL n).toArray⟩ : ByteArray) = T at hq he2
  have HQ := Lib.hid hq
  have HE := Lib.hid he2
  clear hq he2
  have HC := Lib.hid hc
  clear hc
  have t40 : (6 : Int) ≤ (h.size : Int) := by omega
  have t8 : (8 : Int) ≤ (h.size : Int) := by omega
  have t1 : 0 < h.size := by omega
  obtain ⟨b, hb⟩ : ∃ b, (bAt h 0).toNat = b := ⟨_, rfl⟩
  have hb96 : ((b : Int) == 96) = true := by
    rw [← hb]
    rw [h1]; rfl
  have HB := Lib.hid hb
  clear hb h1
  clear hs
  go_enter Try.func30, Try.ntmps30
  go_upto_region 2 with (go_at_call 34; refine (HC.out _).mono ?_; rintro e w1 ⟨rfl, rfl⟩)
  refine wp_region_freePanic ?_
  refine wp_region_flow (fin := ?fin4) 10 1 (by kernel_rfl) [.inl (.string h),
    .inl (.int .u8 (b : Int)),
    .inl (.bool true),
    .inl (.bool true),
    .inl (.string h),
    .inl (.string (h.extract 4 8)),
    .inl (.int .i64 (n : Int)),
    .inl (.string T),
    .inl (.bool true),
    .inl (.bool true)] rfl rfl (by kernel_rfl) ?hfin4 ?hE4 ?hend4
  case hfin4 =>
    intro G
    simp only [flowAll, flowVal, Act.put, List.setIfInBounds_toArray, List.set_cons_zero, List.set_cons_succ]
    exact rfl
  case hE4 =>
    intro G
    refine ⟨Or.inr (fun W hB hR => known_val rfl (by go_simp)),
      Or.inr (fun W hB hR => known_val rfl (by rw [← HB.out]; exact exec_index (.tmp 11) (.const (.int .i64 0)) h 0 t1 rfl rfl rfl)),
      Or.inr (fun W hB hR => known_val rfl (by go_simp)),
      Or.inr (fun W hB hR => known_val rfl (by go_simp)),
      Or.inr (fun W hB hR => known_val rfl (by go_simp)),
      Or.inr (fun W hB hR => known_val rfl (by go_simp)),
      Or.inr (fun W hB hR => known_val rfl (by go_simp)),
      Or.inr (fun W hB hR => known_call 19 #[.int .i64 (n : Int)] (HQ.out W) rfl (by go_simp)),
      Or.inr (fun W hB hR => known_val rfl (by exact exec_eqS (.tmp 16) (.tmp 18) _ _ true HE.out rfl rfl rfl)),
      Or.inr (fun W hB hR => known_val rfl (by go_simp)), trivial⟩
  intro G W hB hM
  replace M := M.drew.step hB
  clear hB hM G
  refine callP 10 21 29 #[.bool true, .int .i64 3] _ (by kernel_rfl) rfl rfl rfl (by go_simp) (demand10_any _ _ _) ?_
  rintro e w3 ⟨rfl, rfl⟩
  refine Or.inl ⟨_, rfl, ?_⟩
  simp only [Act.put, List.setIfInBounds_toArray, List.set_cons_zero, List.set_cons_succ]
  refine wpAny_end (by kernel_rfl) ?_ _
  refine FreePanic.normal ?_
  rcases sizeOk_spec h3 with rfl | rfl
  · go_wp2_with (go_at_call 29; refine (demand10_any _ _ _).mono ?_; rintro e w1 ⟨he, rfl⟩; first | (replace he := he.trans demanded_yes; subst he) | (replace he := he.trans demanded_no; subst he))
    go_ret
    exact ⟨M.below, rfl⟩
  · go_wp2_with (go_at_call 29; refine (demand10_any _ _ _).mono ?_; rintro e w1 ⟨he, rfl⟩; first | (replace he := he.trans demanded_yes; subst he) | (replace he := he.trans demanded_no; subst he))
    go_ret
    exact ⟨M.below, rfl⟩
/-- readHead, whatever the head -/
theorem readHead_any (h : ByteArray) (hs : h.size = 40) (w : World) : Calls Try.prog 30 #[.string h] w fun e w' => Below w.heap.size w w' ∧ e = if headOk h && sizeOk (wd h 4) then .returned (.int .i64 (wd h 4 : Int)) else thrown 3 := by
  unfold headOk
  by_cases h1 : bAt h 0 = 96
  · have e1 : (bAt h 0 == 96) = true := by rw [h1]; rfl
    rw [e1, Bool.true_and]
    cases h2 : cut9 h 4 4 == sizesL (wd h 4) with
    | false => exact readHead_sizes h hs h1 h2 w
    | true =>
      cases h3 : sizeOk (wd h 4) with
      | false => exact readHead_size h hs h1 h2 h3 w
      | true => exact readHead_ok h hs h1 h2 h3 w
  · have e1 : (bAt h 0 == 96) = false := by simpa using h1
    rw [e1]
    exact readHead_ver h hs h1 w
end Go.Proofs.Ytkjkmnaiddjjnaa
