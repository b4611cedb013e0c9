/- The walk of law ChaParts. -/
import Derived.Test.YtmlipnhmdgmhnaaTL
namespace Go.Proofs.Ytmlipnhmdgmhnaa
open Go.RowKit
set_option maxHeartbeats 400000 in
theorem parts_over (k n : List UInt8) (c : UInt32) (s : ByteArray) (hs : 600 < s.size) (z : UInt8) (w : World) :
    Calls Try.prog 4 #[.agg (bs k), W32 c, .agg (bs n), .string s, .int .u8 (z.toNat : Int)] w fun e w' => e = .returned (.bool true) ∧ Below w.heap.size w w' := by
  have hb : Below w.heap.size w ((w.alloc (.cells (bs k) 23)).alloc (.cells (bs n) 25)) := ((Below.refl _ _).alloc (Nat.le_refl _) _).alloc (by simp) _
  have t1 : decide (600 < (s.size : Int)) = true := by simp; omega
  go_enter Try.func4, Try.ntmps4
  go_wp2_with (go_at_call 8; refine (awake3_any _).mono ?_; rintro e wq ⟨rfl, rfl⟩)
  go_ret
  exact ⟨rfl, hb⟩
theorem cut_list (s : ByteArray) (m : Nat) : (s.extract 0 m).data.toList = s.data.toList.take m := by
  rw [ByteArray.data_extract, Array.toList_extract, List.extract_eq_take_drop, List.drop_zero, Nat.sub_zero]
theorem rest_list (s : ByteArray) (m : Nat) : (s.extract m s.size).data.toList = s.data.toList.drop m := by
  rw [ByteArray.data_extract, Array.toList_extract, List.extract_eq_take_drop]
  exact List.take_of_length_le (by rw [List.length_drop, len_list]; exact Nat.le_refl _)
set_option maxHeartbeats 1000000 in
theorem parts_short (k n : List UInt8) (hk : k.length = 32) (hn : n.length = 12) (c : UInt32) (s : ByteArray) (hs : s.size ≤ 600) (z : UInt8) (w : World) :
    Calls Try.prog 4 #[.agg (bs k), W32 c, .agg (bs n), .string s, .int .u8 (z.toNat : Int)] w fun e w' => e = .returned (.bool true) ∧ Below w.heap.size w w' := by
  obtain ⟨r, hr⟩ : ∃ r, z.toNat % 9 = r := ⟨_, rfl⟩
  obtain ⟨d, hd⟩ : ∃ d, s.size / 64 = d := ⟨_, rfl⟩
  obtain ⟨a, ha⟩ : ∃ a, min r d = a := ⟨_, rfl⟩
  obtain ⟨m, hm⟩ : ∃ m, 64 * a = m := ⟨_, rfl⟩
  have m1 := mask3_any k hk c ⟨n.toArray⟩ s (by rw [str_size, hn]) (by omega)
  have hsz2 : (s.extract 0 m).size = m := by rw [ByteArray.size_extract]; omega
  have hsz3 : (s.extract m s.size).size = s.size - m := by rw [ByteArray.size_extract]; omega
  have m2 := mask3_any k hk c ⟨n.toArray⟩ (s.extract 0 m) (by rw [str_size, hn]) (by omega)
  have m3 := mask3_any k hk (c + UInt32.ofNat a) ⟨n.toArray⟩ (s.extract m s.size) (by rw [str_size, hn]) (by omega)
  rw [str_list] at m1 m2 m3
  rw [cut_list] at m2
  rw [rest_list, fst0_cnt k hk] at m3
  have hv := fst0_length k c n
  generalize fst0 k c n = v at m1 m2 m3 hv
  have hp := mask_parts v hv (s.data.toList.take m) (s.data.toList.drop m) a (by rw [List.length_take, len_list]; omega)
  rw [List.take_append_drop] at hp
  have hcat : (⟨(maskL v (s.data.toList.take m)).toArray⟩ : ByteArray) ++ ⟨(maskL (cnt v a) (s.data.toList.drop m)).toArray⟩ = ⟨(maskL v s.data.toList).toArray⟩ := by rw [cat_str, ← hp]
  have hl2 : (⟨(maskL v (s.data.toList.take m)).toArray⟩ : ByteArray).size = m := by rw [str_size, maskL_length, List.length_take, len_list]; omega
  have hl3 : (⟨(maskL (cnt v a) (s.data.toList.drop m)).toArray⟩ : ByteArray).size = s.size - m := by rw [str_size, maskL_length, List.length_drop, len_list]
  generalize (⟨(maskL v (s.data.toList.take m)).toArray⟩ : ByteArray) = B at m2 hcat hl2
  generalize (⟨(maskL (cnt v a) (s.data.toList.drop m)).toArray⟩ : ByteArray) = C at m3 hcat hl3
  generalize (⟨(maskL v s.data.toList).toArray⟩ : ByteArray) = A at m1 hcat
  clear hp hv
  have hz := z.toNat_lt
  have e1 : ((z.toNat : Int)).tmod 9 = (r : Int) := by rw [Int.tmod_eq_emod_of_nonneg (by omega)]; omega
  have e2 : ((s.size : Int)).tdiv 64 = (d : Int) := by rw [Int.tdiv_eq_ediv_of_nonneg (by omega)]; omega
  have e3 : (if d < r then (d : Int) else (r : Int)) = (a : Int) := by split <;> omega
  have ex : (a : Int) = ((UInt32.ofNat a).toNat : Int) := by rw [UInt32.toNat_ofNat', Nat.mod_eq_of_lt (by omega)]
  have hy := addw32 c (UInt32.ofNat a)
  generalize c + UInt32.ofNat a = y at m3 hy
  generalize UInt32.ofNat a = x at ex hy
  have EX := Lib.hid ex
  clear ex
  have M1 := Lib.hid m1
  have M2 := Lib.hid m2
  have M3 := Lib.hid m3
  have HK := Lib.hid hk
  have HN := Lib.hid hn
  have HCAT := Lib.hid hcat
  clear m1 m2 m3 hk hn hcat
  have E := KNEnv.fresh w k n
  have t1 : decide (600 < (s.size : Int)) = false := by simp; omega
  go_enter Try.func4, Try.ntmps4
  go_upto_region 1 with fail
  generalize (w.alloc (.cells (bs k) 23)).alloc (.cells (bs n) 25) = w0 at E ⊢
  have hcv := conv_bytes E.2.1 12 12 HN.out
  have i1 := E.1
  go_upto_region 6 with (go_at_call 8; refine (awake3_any _).mono ?_; rintro e wq ⟨rfl, rfl⟩)
  clear e1 e2 e3 hcv
  go_wp2_with (refine wpList_load_row rfl 23 (.tmp 5) rfl w.heap.size rfl 23 (bs k) (0, 0) _ i1 Try.underlying23 rfl (infoKey k HK.out) ?_)
  refine (M1.out _).mono ?_
  rintro e w1 ⟨rfl, hb1⟩
  replace E := E.step hb1
  clear hb1 i1 w0 M1
  have em : IntKind.i64.wrap (64 * (a : Int)) = (m : Int) := by rw [IntWalk.i64_in _ (by omega)]; omega
  have m1 : m ≤ s.size := by omega
  have m2 : (m : Int) ≤ (s.size : Int) := by omega
  go_upto_region 7 with fail
  refine wp_region_noPanic ?_
  refine wp_region_held_drew (S := fun w' => Has w' w.heap.size 23 (bs k)) (by kernel_rfl) E.1.drew (fun hS => ?_)
  replace E := E.drew
  generalize w1.drew = w2 at E hS ⊢
  refine take1 hS 0 46 (.agg (bs k)) _ rfl (by kernel_rfl) (by kernel_rfl) (by kernel_rfl) (fun _ _ _ h => h) rfl rfl (fun w' h => by exact exec_load_row (P := Try.prog) 23 (.tmp 5) w.heap.size h Try.underlying23 rfl (infoKey k HK.out) rfl rfl) ?_
  simp only [Act.put, List.setIfInBounds_toArray, List.set_cons_zero, List.set_cons_succ]
  refine take1 hS 1 47 (W32 c) _ rfl (by kernel_rfl) (by kernel_rfl) (by kernel_rfl) (fun _ _ _ h => h) rfl rfl (fun w' h => by go_simp) ?_
  simp only [Act.put, List.setIfInBounds_toArray, List.set_cons_zero, List.set_cons_succ]
  refine take1 hS 2 48 (.string ⟨n.toArray⟩) _ rfl (by kernel_rfl) (by kernel_rfl) (by kernel_rfl) (fun _ _ _ h => h) rfl rfl (fun w' h => by go_simp) ?_
  simp only [Act.put, List.setIfInBounds_toArray, List.set_cons_zero, List.set_cons_succ]
  refine take1 hS 3 49 (.string s) _ rfl (by kernel_rfl) (by kernel_rfl) (by kernel_rfl) (fun _ _ _ h => h) rfl rfl (fun w' h => by go_simp) ?_
  simp only [Act.put, List.setIfInBounds_toArray, List.set_cons_zero, List.set_cons_succ]
  refine take1 hS 4 50 (.int .i64 (a : Int)) _ rfl (by kernel_rfl) (by kernel_rfl) (by kernel_rfl) (fun _ _ _ h => h) rfl rfl (fun w' h => by go_simp) ?_
  simp only [Act.put, List.setIfInBounds_toArray, List.set_cons_zero, List.set_cons_succ]
  refine take1 hS 5 51 (.int .i64 (m : Int)) _ rfl (by kernel_rfl) (by kernel_rfl) (by kernel_rfl) (fun _ _ _ h => h) rfl rfl (fun w' h => by go_simp) ?_
  simp only [Act.put, List.setIfInBounds_toArray, List.set_cons_zero, List.set_cons_succ]
  refine take1 hS 6 52 (.string (s.extract 0 m)) _ rfl (by kernel_rfl) (by kernel_rfl) (by kernel_rfl) (fun _ _ _ h => h) rfl rfl (fun w' h => by go_simp) ?_
  simp only [Act.put, List.setIfInBounds_toArray, List.set_cons_zero, List.set_cons_succ]
  have hcall := M2.out w2
  refine onlyCall 7 53 9 #[.agg (bs k), W32 c, .string ⟨n.toArray⟩, .string (s.extract 0 m)] _ (by kernel_rfl) rfl rfl rfl (by go_simp) hcall ?_
  clear hS
  rintro e w3 ⟨rfl, hb1⟩
  replace E := E.step hb1
  refine ⟨_, rfl, E.1, ?_⟩
  have hS := E.1
  clear hb1
  simp only [Act.put, List.setIfInBounds_toArray, List.set_cons_zero, List.set_cons_succ]
  refine take1 hS 8 45 (.tuple #[.string B, .int .i64 0]) _ rfl (by kernel_rfl) (by kernel_rfl) (by kernel_rfl) (fun _ _ _ h => h) rfl rfl (fun w' h => by go_simp) ?_
  simp only [Act.put, List.setIfInBounds_toArray, List.set_cons_zero, List.set_cons_succ]
  refine take1 hS 9 54 (.string B) _ rfl (by kernel_rfl) (by kernel_rfl) (by kernel_rfl) (fun _ _ _ h => h) rfl rfl (fun w' h => by go_simp) ?_
  simp only [Act.put, List.setIfInBounds_toArray, List.set_cons_zero, List.set_cons_succ]
  refine take1 hS 10 55 (.int .i64 0) _ rfl (by kernel_rfl) (by kernel_rfl) (by kernel_rfl) (fun _ _ _ h => h) rfl rfl (fun w' h => by go_simp) ?_
  simp only [Act.put, List.setIfInBounds_toArray, List.set_cons_zero, List.set_cons_succ]
  refine take1 hS 11 15 (.string B) _ rfl (by kernel_rfl) (by kernel_rfl) (by kernel_rfl) (fun _ _ _ h => h) rfl rfl (fun w' h => by go_simp) ?_
  simp only [Act.put, List.setIfInBounds_toArray, List.set_cons_zero, List.set_cons_succ]
  refine take1 hS 12 16 (.int .i64 0) _ rfl (by kernel_rfl) (by kernel_rfl) (by kernel_rfl) (fun _ _ _ h => h) rfl rfl (fun w' h => by go_simp) ?_
  simp only [Act.put, List.setIfInBounds_toArray, List.set_cons_zero, List.set_cons_succ]
  refine wpAnyH_done (by kernel_rfl) ?_ _
  refine NoPanic.normal ?_
  clear hS
  clear hcall M2
  go_upto_region 8 with fail
  refine wp_region_noPanic ?_
  refine wp_region_held_drew (S := fun w' => Has w' w.heap.size 23 (bs k)) (by kernel_rfl) E.1.drew (fun hS => ?_)
  replace E := E.drew
  generalize w3.drew = w4 at E hS ⊢
  have hx2 : IntKind.u32.wrap (a : Int) = (x.toNat : Int) := by rw [← EX.out, IntKind.wrap_u32']; omega
  refine take1 hS 0 57 (.agg (bs k)) _ rfl (by kernel_rfl) (by kernel_rfl) (by kernel_rfl) (fun _ _ _ h => h) rfl rfl (fun w' h => by exact exec_load_row (P := Try.prog) 23 (.tmp 5) w.heap.size h Try.underlying23 rfl (infoKey k HK.out) rfl rfl) ?_
  simp only [Act.put, List.setIfInBounds_toArray, List.set_cons_zero, List.set_cons_succ]
  refine take1 hS 1 58 (W32 c) _ rfl (by kernel_rfl) (by kernel_rfl) (by kernel_rfl) (fun _ _ _ h => h) rfl rfl (fun w' h => by go_simp) ?_
  simp only [Act.put, List.setIfInBounds_toArray, List.set_cons_zero, List.set_cons_succ]
  refine take1 hS 2 59 (.int .i64 (a : Int)) _ rfl (by kernel_rfl) (by kernel_rfl) (by kernel_rfl) (fun _ _ _ h => h) rfl rfl (fun w' h => by go_simp) ?_
  simp only [Act.put, List.setIfInBounds_toArray, List.set_cons_zero, List.set_cons_succ]
  refine take1 hS 3 60 (W32 x) _ rfl (by kernel_rfl) (by kernel_rfl) (by kernel_rfl) (fun _ _ _ h => h) rfl rfl (fun w' h => by go_simp) ?_
  simp only [Act.put, List.setIfInBounds_toArray, List.set_cons_zero, List.set_cons_succ]
  refine take1 hS 4 61 (W32 y) _ rfl (by kernel_rfl) (by kernel_rfl) (by kernel_rfl) (fun _ _ _ h => h) rfl rfl (fun w' h => by go_simp) ?_
  simp only [Act.put, List.setIfInBounds_toArray, List.set_cons_zero, List.set_cons_succ]
  refine take1 hS 5 62 (.string ⟨n.toArray⟩) _ rfl (by kernel_rfl) (by kernel_rfl) (by kernel_rfl) (fun _ _ _ h => h) rfl rfl (fun w' h => by go_simp) ?_
  simp only [Act.put, List.setIfInBounds_toArray, List.set_cons_zero, List.set_cons_succ]
  refine take1 hS 6 63 (.string s) _ rfl (by kernel_rfl) (by kernel_rfl) (by kernel_rfl) (fun _ _ _ h => h) rfl rfl (fun w' h => by go_simp) ?_
  simp only [Act.put, List.setIfInBounds_toArray, List.set_cons_zero, List.set_cons_succ]
  refine take1 hS 7 64 (.int .i64 (a : Int)) _ rfl (by kernel_rfl) (by kernel_rfl) (by kernel_rfl) (fun _ _ _ h => h) rfl rfl (fun w' h => by go_simp) ?_
  simp only [Act.put, List.setIfInBounds_toArray, List.set_cons_zero, List.set_cons_succ]
  refine take1 hS 8 65 (.int .i64 (m : Int)) _ rfl (by kernel_rfl) (by kernel_rfl) (by kernel_rfl) (fun _ _ _ h => h) rfl rfl (fun w' h => by go_simp) ?_
  simp only [Act.put, List.setIfInBounds_toArray, List.set_cons_zero, List.set_cons_succ]
  refine take1 hS 9 66 (.string (s.extract m s.size)) _ rfl (by kernel_rfl) (by kernel_rfl) (by kernel_rfl) (fun _ _ _ h => h) rfl rfl (fun w' h => by go_simp) ?_
  simp only [Act.put, List.setIfInBounds_toArray, List.set_cons_zero, List.set_cons_succ]
  have hcall := M3.out w4
  refine onlyCall 10 67 9 #[.agg (bs k), W32 y, .string ⟨n.toArray⟩, .string (s.extract m s.size)] _ (by kernel_rfl) rfl rfl rfl (by go_simp) hcall ?_
  clear hS
  rintro e w5 ⟨rfl, hb1⟩
  replace E := E.step hb1
  refine ⟨_, rfl, E.1, ?_⟩
  have hS := E.1
  clear hb1
  simp only [Act.put, List.setIfInBounds_toArray, List.set_cons_zero, List.set_cons_succ]
  refine take1 hS 11 56 (.tuple #[.string C, .int .i64 0]) _ rfl (by kernel_rfl) (by kernel_rfl) (by kernel_rfl) (fun _ _ _ h => h) rfl rfl (fun w' h => by go_simp) ?_
  simp only [Act.put, List.setIfInBounds_toArray, List.set_cons_zero, List.set_cons_succ]
  refine take1 hS 12 68 (.string C) _ rfl (by kernel_rfl) (by kernel_rfl) (by kernel_rfl) (fun _ _ _ h => h) rfl rfl (fun w' h => by go_simp) ?_
  simp only [Act.put, List.setIfInBounds_toArray, List.set_cons_zero, List.set_cons_succ]
  refine take1 hS 13 69 (.int .i64 0) _ rfl (by kernel_rfl) (by kernel_rfl) (by kernel_rfl) (fun _ _ _ h => h) rfl rfl (fun w' h => by go_simp) ?_
  simp only [Act.put, List.setIfInBounds_toArray, List.set_cons_zero, List.set_cons_succ]
  refine take1 hS 14 17 (.string C) _ rfl (by kernel_rfl) (by kernel_rfl) (by kernel_rfl) (fun _ _ _ h => h) rfl rfl (fun w' h => by go_simp) ?_
  simp only [Act.put, List.setIfInBounds_toArray, List.set_cons_zero, List.set_cons_succ]
  refine take1 hS 15 18 (.int .i64 0) _ rfl (by kernel_rfl) (by kernel_rfl) (by kernel_rfl) (fun _ _ _ h => h) rfl rfl (fun w' h => by go_simp) ?_
  simp only [Act.put, List.setIfInBounds_toArray, List.set_cons_zero, List.set_cons_succ]
  refine wpAnyH_done (by kernel_rfl) ?_ _
  refine NoPanic.normal ?_
  clear hS
  clear hcall M3 em m1 m2 hx2 hy
  have hc9 : ¬ (9223372036854775807 < B.size + C.size) := by omega
  have hcat := HCAT.out
  clear hl2 hl3 hsz2 hsz3 hm ha hd hr hz
  go_wp2
  go_ret
  exact ⟨rfl, E.2.2⟩
theorem partsLaw_any (k : List UInt8) (hk : k.length = 32) (c : Int) (hc : (Lit.int .u32 c).wf = true) (n : List UInt8) (hn : n.length = 12) (s : ByteArray) (z : Int) (hz : (Lit.int .u8 z).wf = true) (w : World) :
    Calls Try.prog 4 #[.agg (bs k), .int .u32 c, .agg (bs n), .string s, .int .u8 z] w fun e w' => e = .returned (.bool true) ∧ Below w.heap.size w w' := by
  obtain ⟨c, rfl⟩ : ∃ x : UInt32, c = (x.toNat : Int) := by
    have hb := bounds_u32 hc
    exact ⟨UInt32.ofNat c.toNat, by rw [UInt32.toNat_ofNat', Nat.mod_eq_of_lt (by omega)]; omega⟩
  obtain ⟨z, rfl⟩ : ∃ x : UInt8, z = (x.toNat : Int) := by
    have hb := bounds_u8 hz
    exact ⟨UInt8.ofNat z.toNat, by rw [UInt8.toNat_ofNat', Nat.mod_eq_of_lt (by omega)]; omega⟩
  by_cases h : 600 < s.size
  · exact parts_over k n c s h z w
  · exact parts_short k n hk hn c s (by omega) z w
end Go.Proofs.Ytmlipnhmdgmhnaa
