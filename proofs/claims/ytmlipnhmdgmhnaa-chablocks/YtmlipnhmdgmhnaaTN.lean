/- The walk of law ChaBlocks. -/
import Derived.Test.YtmlipnhmdgmhnaaTL
namespace Go.Proofs.Ytmlipnhmdgmhnaa
open Go.RowKit
theorem blksB_length (v : List UInt32) (hv : v.length = 16) (m : Nat) : (blksB v m).length = 64 * m := by
  rw [← mask_blocks v hv, maskL_length, List.length_replicate]
set_option maxHeartbeats 2000000 in
theorem blocks_walk (k n : List UInt8) (hk : k.length = 32) (hn : n.length = 12) (c : UInt32) (z : UInt8) (w : World) :
    Calls Try.prog 7 #[.agg (bs k), W32 c, .agg (bs n), .int .u8 (z.toNat : Int)] w fun e w' => e = .returned (.bool true) ∧ Below w.heap.size w w' := by
  obtain ⟨M, hM⟩ : ∃ M, z.toNat % 5 = M := ⟨_, rfl⟩
  have hb3 := fun j => block3_any k hk (c + UInt32.ofNat j) ⟨n.toArray⟩ (by rw [str_size, hn])
  have hm3 := mask3_any k hk c ⟨n.toArray⟩ ⟨(List.replicate (64 * M) 0).toArray⟩ (by rw [str_size, hn]) (by rw [str_size, List.length_replicate]; omega)
  simp only [str_list, fst0_cnt k hk] at hb3
  rw [str_list, str_list] at hm3
  have hv := fst0_length k c n
  generalize fst0 k c n = v at hb3 hm3 hv
  rw [mask_blocks v hv] at hm3
  have e1 : ((z.toNat : Int)).tmod 5 = (M : Int) := by rw [Int.tmod_eq_emod_of_nonneg (by omega)]; omega
  have hM4 : M ≤ 4 := by omega
  have hz : z.toNat < 256 := z.toNat_lt
  have HB := Lib.hid hb3
  have HM := Lib.hid hm3
  have HV := Lib.hid hv
  have HK := Lib.hid hk
  have HN := Lib.hid hn
  clear hb3 hm3 hv hk hn hM
  have E := KNEnv.fresh w k n
  go_enter Try.func7, Try.ntmps7
  go_upto_region 1 with fail
  generalize (w.alloc (.cells (bs k) 23)).alloc (.cells (bs n) 25) = w0 at E ⊢
  go_wp2_with (go_at_call 8; refine (awake3_any _).mono ?_; rintro e wq ⟨rfl, rfl⟩)
  clear e1
  go_loopw [10, 11] (fun t i wr => ∃ j : Nat, j ≤ M ∧ t = .string ⟨(blksB v j).toArray⟩ ∧ i = .int .i64 (j : Int) ∧ KNEnv w k n wr) (fun _ i _ => M - (intOf i).toNat)
  case atStart => exact ⟨0, by omega, rfl, rfl, E⟩
  case round =>
    clear E w0
    obtain ⟨j, hj, rfl, rfl, E⟩ := hrel
    have hsz : (⟨(blksB v j).toArray⟩ : ByteArray).size = 64 * j := by rw [str_size, blksB_length v HV.out]
    by_cases hlt : j < M
    · have t1 : decide ((j : Int) < (M : Int)) = true := by simp; omega
      have hcall0 := HB.out j
      have hbl : (⟨(blkB (cnt v j)).toArray⟩ : ByteArray).size = 64 := by rw [str_size, blkB_length _ (by rw [cnt_length]; exact HV.out)]
      have hcat : (⟨(blksB v j).toArray⟩ : ByteArray) ++ ⟨(blkB (cnt v j)).toArray⟩ = ⟨(blksB v (j + 1)).toArray⟩ := by rw [cat_str]; rfl
      generalize (⟨(blkB (cnt v j)).toArray⟩ : ByteArray) = b at hcall0 hbl hcat
      generalize (⟨(blksB v j).toArray⟩ : ByteArray) = T at hsz hcat ⊢
      have ex : (j : Int) = ((UInt32.ofNat j).toNat : Int) := by rw [UInt32.toNat_ofNat', Nat.mod_eq_of_lt (by omega)]
      have hy := addw32 c (UInt32.ofNat j)
      generalize c + UInt32.ofNat j = y at hcall0 hy
      generalize UInt32.ofNat j = x at ex hy
      have hx2 : IntKind.u32.wrap (j : Int) = (x.toNat : Int) := by rw [← ex, IntKind.wrap_u32']; omega
      have HC := Lib.hid hcall0
      have HCAT := Lib.hid hcat
      clear hcall0 hcat ex
      go_upto_region 8 with fail
      refine wp_region_noPanic ?_
      refine wp_region_held_drew (S := fun w' => Has w' w.heap.size 23 (bs k) ∧ (convert 27 9 (.slice (some ⟨w.heap.size + 1, 0, none⟩) 12 12)).run Try.prog w' = .ok (.string ⟨n.toArray⟩) w') (by kernel_rfl) ⟨E.1.drew, conv_bytes E.2.1.drew 12 12 HN.out⟩ (fun hS => ?_)
      replace E := E.drew
      generalize wr.drew = w2 at E hS ⊢
      refine take1 hS 0 27 (.agg (bs k)) _ rfl (by kernel_rfl) (by kernel_rfl) (by kernel_rfl) (fun _ _ _ h => h) rfl rfl (fun w' h => by exact exec_load_row (P := Try.prog) 23 (.tmp 4) w.heap.size h.1 Try.underlying23 rfl (infoKey k HK.out) rfl rfl) ?_
      simp only [Act.put, List.setIfInBounds_toArray, List.set_cons_zero, List.set_cons_succ]
      refine take1 hS 1 28 (W32 c) _ rfl (by kernel_rfl) (by kernel_rfl) (by kernel_rfl) (fun _ _ _ h => h) rfl rfl (fun w' h => by go_simp) ?_
      simp only [Act.put, List.setIfInBounds_toArray, List.set_cons_zero, List.set_cons_succ]
      refine take1 hS 2 29 (.int .i64 (j : Int)) _ rfl (by kernel_rfl) (by kernel_rfl) (by kernel_rfl) (fun _ _ _ h => h) rfl rfl (fun w' h => by go_simp) ?_
      simp only [Act.put, List.setIfInBounds_toArray, List.set_cons_zero, List.set_cons_succ]
      refine take1 hS 3 30 (W32 x) _ rfl (by kernel_rfl) (by kernel_rfl) (by kernel_rfl) (fun _ _ _ h => h) rfl rfl (fun w' h => by go_simp) ?_
      simp only [Act.put, List.setIfInBounds_toArray, List.set_cons_zero, List.set_cons_succ]
      refine take1 hS 4 31 (W32 y) _ rfl (by kernel_rfl) (by kernel_rfl) (by kernel_rfl) (fun _ _ _ h => h) rfl rfl (fun w' h => by go_simp) ?_
      simp only [Act.put, List.setIfInBounds_toArray, List.set_cons_zero, List.set_cons_succ]
      refine take1 hS 5 32 (.slice (some ⟨w.heap.size + 1, 0, none⟩) 12 12) _ rfl (by kernel_rfl) (by kernel_rfl) (by kernel_rfl) (fun _ _ _ h => h) rfl rfl (fun w' h => by go_simp) ?_
      simp only [Act.put, List.setIfInBounds_toArray, List.set_cons_zero, List.set_cons_succ]
      refine take1 hS 6 33 (.string ⟨n.toArray⟩) _ rfl (by kernel_rfl) (by kernel_rfl) (by kernel_rfl) (fun _ _ _ h => h) rfl rfl (fun w' h => by obtain ⟨_, h2⟩ := h; go_simp) ?_
      simp only [Act.put, List.setIfInBounds_toArray, List.set_cons_zero, List.set_cons_succ]
      have hcall := HC.out w2
      refine onlyCall 7 34 12 #[.agg (bs k), W32 y, .string ⟨n.toArray⟩] _ (by kernel_rfl) rfl rfl rfl (by go_simp) hcall ?_
      clear hS
      rintro e w3 ⟨rfl, hb1⟩
      replace E := E.step hb1
      have hS : Has w3 w.heap.size 23 (bs k) ∧ (convert 27 9 (.slice (some ⟨w.heap.size + 1, 0, none⟩) 12 12)).run Try.prog w3 = .ok (.string ⟨n.toArray⟩) w3 := ⟨E.1, conv_bytes E.2.1 12 12 HN.out⟩
      refine ⟨_, rfl, hS, ?_⟩
      clear hb1
      simp only [Act.put, List.setIfInBounds_toArray, List.set_cons_zero, List.set_cons_succ]
      refine take1 hS 8 26 (.tuple #[.string b, .int .i64 0]) _ rfl (by kernel_rfl) (by kernel_rfl) (by kernel_rfl) (fun _ _ _ h => h) rfl rfl (fun w' h => by go_simp) ?_
      simp only [Act.put, List.setIfInBounds_toArray, List.set_cons_zero, List.set_cons_succ]
      refine take1 hS 9 35 (.string b) _ rfl (by kernel_rfl) (by kernel_rfl) (by kernel_rfl) (fun _ _ _ h => h) rfl rfl (fun w' h => by go_simp) ?_
      simp only [Act.put, List.setIfInBounds_toArray, List.set_cons_zero, List.set_cons_succ]
      refine take1 hS 10 36 (.int .i64 0) _ rfl (by kernel_rfl) (by kernel_rfl) (by kernel_rfl) (fun _ _ _ h => h) rfl rfl (fun w' h => by go_simp) ?_
      simp only [Act.put, List.setIfInBounds_toArray, List.set_cons_zero, List.set_cons_succ]
      refine take1 hS 11 12 (.string b) _ rfl (by kernel_rfl) (by kernel_rfl) (by kernel_rfl) (fun _ _ _ h => h) rfl rfl (fun w' h => by go_simp) ?_
      simp only [Act.put, List.setIfInBounds_toArray, List.set_cons_zero, List.set_cons_succ]
      refine take1 hS 12 13 (.int .i64 0) _ rfl (by kernel_rfl) (by kernel_rfl) (by kernel_rfl) (fun _ _ _ h => h) rfl rfl (fun w' h => by go_simp) ?_
      simp only [Act.put, List.setIfInBounds_toArray, List.set_cons_zero, List.set_cons_succ]
      refine wpAnyH_done (by kernel_rfl) ?_ _
      refine NoPanic.normal ?_
      clear hS
      clear hcall hx2 hy HC
      have hc9 : ¬ (9223372036854775807 < T.size + b.size) := by omega
      have hb64 : ((b.size : Int) != 64) = false := by simp; omega
      go_wp2
      rw [HCAT.out]
      go_roundw
      case rel => exact ⟨j + 1, by omega, rfl, by go_num, E⟩
      case measure => simp [intOf]; omega
    · have hj2 : j = M := by omega
      subst hj2
      have t1 : decide ((j : Int) < (j : Int)) = false := by simp
      obtain ⟨m, hm⟩ : ∃ m, 64 * j = m := ⟨_, rfl⟩
      have hM2 := HM.out
      rw [hm] at hM2
      have HM2 := Lib.hid hM2
      clear hM2 HM hsz
      generalize (⟨(blksB v j).toArray⟩ : ByteArray) = T at HM2 ⊢
      have em : IntKind.i64.wrap (64 * (j : Int)) = (m : Int) := by rw [IntWalk.i64_in _ (by omega)]; omega
      go_upto_region 12 with fail
      refine wp_region_noPanic ?_
      refine wp_region_held_drew (S := fun w' => Has w' w.heap.size 23 (bs k) ∧ (convert 27 9 (.slice (some ⟨w.heap.size + 1, 0, none⟩) 12 12)).run Try.prog w' = .ok (.string ⟨n.toArray⟩) w') (by kernel_rfl) ⟨E.1.drew, conv_bytes E.2.1.drew 12 12 HN.out⟩ (fun hS => ?_)
      replace E := E.drew
      generalize wr.drew = w2 at E hS ⊢
      refine take1 hS 0 48 (.agg (bs k)) _ rfl (by kernel_rfl) (by kernel_rfl) (by kernel_rfl) (fun _ _ _ h => h) rfl rfl (fun w' h => by exact exec_load_row (P := Try.prog) 23 (.tmp 4) w.heap.size h.1 Try.underlying23 rfl (infoKey k HK.out) rfl rfl) ?_
      simp only [Act.put, List.setIfInBounds_toArray, List.set_cons_zero, List.set_cons_succ]
      refine take1 hS 1 49 (W32 c) _ rfl (by kernel_rfl) (by kernel_rfl) (by kernel_rfl) (fun _ _ _ h => h) rfl rfl (fun w' h => by go_simp) ?_
      simp only [Act.put, List.setIfInBounds_toArray, List.set_cons_zero, List.set_cons_succ]
      refine take1 hS 2 50 (.slice (some ⟨w.heap.size + 1, 0, none⟩) 12 12) _ rfl (by kernel_rfl) (by kernel_rfl) (by kernel_rfl) (fun _ _ _ h => h) rfl rfl (fun w' h => by go_simp) ?_
      simp only [Act.put, List.setIfInBounds_toArray, List.set_cons_zero, List.set_cons_succ]
      refine take1 hS 3 51 (.string ⟨n.toArray⟩) _ rfl (by kernel_rfl) (by kernel_rfl) (by kernel_rfl) (fun _ _ _ h => h) rfl rfl (fun w' h => by obtain ⟨_, h2⟩ := h; go_simp) ?_
      simp only [Act.put, List.setIfInBounds_toArray, List.set_cons_zero, List.set_cons_succ]
      refine take1 hS 4 52 (.int .i64 (j : Int)) _ rfl (by kernel_rfl) (by kernel_rfl) (by kernel_rfl) (fun _ _ _ h => h) rfl rfl (fun w' h => by go_simp) ?_
      simp only [Act.put, List.setIfInBounds_toArray, List.set_cons_zero, List.set_cons_succ]
      refine take1 hS 5 53 (.int .i64 (m : Int)) _ rfl (by kernel_rfl) (by kernel_rfl) (by kernel_rfl) (fun _ _ _ h => h) rfl rfl (fun w' h => by go_simp) ?_
      simp only [Act.put, List.setIfInBounds_toArray, List.set_cons_zero, List.set_cons_succ]
      have hmk := make_bytes m (by omega) w2
      have hF := Has.fresh w2 5 (bs (List.replicate m 0))
      replace E := E.step ((Below.refl _ _).alloc (Nat.le_refl _) (.cells (bs (List.replicate m 0)) 5))
      clear hS
      have hS : Has (w2.alloc (.cells (bs (List.replicate m 0)) 5)) w.heap.size 23 (bs k) ∧ (convert 27 9 (.slice (some ⟨w.heap.size + 1, 0, none⟩) 12 12)).run Try.prog (w2.alloc (.cells (bs (List.replicate m 0)) 5)) = .ok (.string ⟨n.toArray⟩) (w2.alloc (.cells (bs (List.replicate m 0)) 5)) := ⟨E.1, conv_bytes E.2.1 12 12 HN.out⟩
      refine onlyVal 6 54 (.slice (some ⟨w2.heap.size, 0, none⟩) m m) (w2.alloc (.cells (bs (List.replicate m 0)) 5)) _ (by kernel_rfl) rfl rfl rfl (by go_simp) hS ?_
      simp only [Act.put, List.setIfInBounds_toArray, List.set_cons_zero, List.set_cons_succ]
      clear hmk
      generalize w2.alloc (.cells (bs (List.replicate m 0)) 5) = w3 at E hF hS ⊢
      have hcv := conv_bytes hF m m (by rw [List.length_replicate])
      refine onlyVal 7 55 (.string ⟨(List.replicate m 0).toArray⟩) w3 _ (by kernel_rfl) rfl rfl rfl (by go_simp) hS ?_
      simp only [Act.put, List.setIfInBounds_toArray, List.set_cons_zero, List.set_cons_succ]
      clear hcv hF
      have hcall := HM2.out w3
      refine onlyCall 8 56 9 #[.agg (bs k), W32 c, .string ⟨n.toArray⟩, .string ⟨(List.replicate m 0).toArray⟩] _ (by kernel_rfl) rfl rfl rfl (by go_simp) hcall ?_
      clear hS
      rintro e w4 ⟨rfl, hb1⟩
      replace E := E.step hb1
      have hS : Has w4 w.heap.size 23 (bs k) ∧ (convert 27 9 (.slice (some ⟨w.heap.size + 1, 0, none⟩) 12 12)).run Try.prog w4 = .ok (.string ⟨n.toArray⟩) w4 := ⟨E.1, conv_bytes E.2.1 12 12 HN.out⟩
      refine ⟨_, rfl, hS, ?_⟩
      clear hb1
      simp only [Act.put, List.setIfInBounds_toArray, List.set_cons_zero, List.set_cons_succ]
      refine take1 hS 9 47 (.tuple #[.string T, .int .i64 0]) _ rfl (by kernel_rfl) (by kernel_rfl) (by kernel_rfl) (fun _ _ _ h => h) rfl rfl (fun w' h => by go_simp) ?_
      simp only [Act.put, List.setIfInBounds_toArray, List.set_cons_zero, List.set_cons_succ]
      refine take1 hS 10 57 (.string T) _ rfl (by kernel_rfl) (by kernel_rfl) (by kernel_rfl) (fun _ _ _ h => h) rfl rfl (fun w' h => by go_simp) ?_
      simp only [Act.put, List.setIfInBounds_toArray, List.set_cons_zero, List.set_cons_succ]
      refine take1 hS 11 58 (.int .i64 0) _ rfl (by kernel_rfl) (by kernel_rfl) (by kernel_rfl) (fun _ _ _ h => h) rfl rfl (fun w' h => by go_simp) ?_
      simp only [Act.put, List.setIfInBounds_toArray, List.set_cons_zero, List.set_cons_succ]
      refine take1 hS 12 14 (.string T) _ rfl (by kernel_rfl) (by kernel_rfl) (by kernel_rfl) (fun _ _ _ h => h) rfl rfl (fun w' h => by go_simp) ?_
      simp only [Act.put, List.setIfInBounds_toArray, List.set_cons_zero, List.set_cons_succ]
      refine take1 hS 13 15 (.int .i64 0) _ rfl (by kernel_rfl) (by kernel_rfl) (by kernel_rfl) (fun _ _ _ h => h) rfl rfl (fun w' h => by go_simp) ?_
      simp only [Act.put, List.setIfInBounds_toArray, List.set_cons_zero, List.set_cons_succ]
      refine wpAnyH_done (by kernel_rfl) ?_ _
      refine NoPanic.normal ?_
      clear hS
      clear hcall em
      go_wp2
      go_ret
      exact ⟨rfl, E.2.2⟩
theorem blocksLaw_any (k : List UInt8) (hk : k.length = 32) (c : Int) (hc : (Lit.int .u32 c).wf = true) (n : List UInt8) (hn : n.length = 12) (z : Int) (hz : (Lit.int .u8 z).wf = true) (w : World) :
    Calls Try.prog 7 #[.agg (bs k), .int .u32 c, .agg (bs n), .int .u8 z] w fun e w' => e = .returned (.bool true) ∧ Below w.heap.size w w' := by
  obtain ⟨c, rfl⟩ : ∃ x : UInt32, c = (x.toNat : Int) := by
    have hb := bounds_u32 hc
    exact ⟨UInt32.ofNat c.toNat, by rw [UInt32.toNat_ofNat', Nat.mod_eq_of_lt (by omega)]; omega⟩
  obtain ⟨z, rfl⟩ : ∃ x : UInt8, z = (x.toNat : Int) := by
    have hb := bounds_u8 hz
    exact ⟨UInt8.ofNat z.toNat, by rw [UInt8.toNat_ofNat', Nat.mod_eq_of_lt (by omega)]; omega⟩
  exact blocks_walk k n hk hn c z w
end Go.Proofs.Ytmlipnhmdgmhnaa
