/- The walk of law AeadTags. -/
import Derived.Test.YtfhjokbbaoldiaaYG
namespace Go.Proofs.Ytfhjokbbaoldiaa
open Go.RowKit
set_option maxRecDepth 20000 in
set_option maxHeartbeats 1000000 in
theorem tags_over0 (k : List UInt8) (n : Nat) (b s : ByteArray)  (hb : 400 < b.size) (w : World) :
    Calls Try.prog 8 #[.agg (bs k), .int .u64 (n : Int), .string b, .string s] w fun e w' => e = .returned (.bool true) ∧ Below w.heap.size w w' := by
  have E := KEnv.fresh w k
  have HA := Lib.hid awake5_any
  have tb : decide (400 < (b.size : Int)) = true := by simp; omega
  go_enter Try.func8, Try.ntmps8
  go_upto_region 1 with fail
  generalize w.alloc (.cells (bs k) 23) = w0 at E ⊢
  go_wp2_with fail
  refine (HA.out _).mono ?_
  rintro e w1 ⟨rfl, hb1⟩
  replace E := E.step hb1
  go_wp2_with fail
  refine (HA.out _).mono ?_
  rintro e w2 ⟨rfl, hb2⟩
  replace E := E.step hb2
  go_wp2
  go_ret
  exact ⟨rfl, E.2⟩
set_option maxRecDepth 20000 in
set_option maxHeartbeats 1000000 in
theorem tags_over1 (k : List UInt8) (n : Nat) (b s : ByteArray) (hb : b.size ≤ 400) (hs : 400 < s.size) (w : World) :
    Calls Try.prog 8 #[.agg (bs k), .int .u64 (n : Int), .string b, .string s] w fun e w' => e = .returned (.bool true) ∧ Below w.heap.size w w' := by
  have E := KEnv.fresh w k
  have HA := Lib.hid awake5_any
  have tb : decide (400 < (b.size : Int)) = false := by simp; omega
  have ts : decide (400 < (s.size : Int)) = true := by simp; omega
  go_enter Try.func8, Try.ntmps8
  go_upto_region 1 with fail
  generalize w.alloc (.cells (bs k) 23) = w0 at E ⊢
  go_wp2_with fail
  refine (HA.out _).mono ?_
  rintro e w1 ⟨rfl, hb1⟩
  replace E := E.step hb1
  go_wp2_with fail
  refine (HA.out _).mono ?_
  rintro e w2 ⟨rfl, hb2⟩
  replace E := E.step hb2
  go_wp2
  go_ret
  exact ⟨rfl, E.2⟩
set_option maxRecDepth 20000 in
set_option maxHeartbeats 1000000 in
theorem tags_short (k : List UInt8) (hk : k.length = 32) (n : Nat) (b s : ByteArray) (hbs : b.size ≤ 400) (hss : s.size ≤ 400) (w : World) :
    Calls Try.prog 8 #[.agg (bs k), .int .u64 (n : Int), .string b, .string s] w fun e w' => e = .returned (.bool true) ∧ Below w.heap.size w w' := by
  have h1 := nonce_any n
  have hNs : (⟨(nonceL n).toArray⟩ : ByteArray).size = 12 := by rw [str_size, nonceL_length]
  generalize (⟨(nonceL n).toArray⟩ : ByteArray) = N at h1 hNs
  have h2 := seal_any k hk N b s hNs (by omega) (by omega)
  have hC := sealed_size k N.data.toList b.data.toList s
  have hM := sealed_head k N.data.toList b.data.toList s
  have hT := sealed_tail k N.data.toList b.data.toList s
  have h3 := tag_any k hk N b ⟨(maskT k N.data.toList s.data.toList).toArray⟩ hNs (by omega) (by rw [str_size, maskT_length, len_list]; omega)
  rw [str_list] at h3
  generalize (⟨(sealL k N.data.toList b.data.toList s.data.toList).toArray⟩ : ByteArray) = C at h2 hC hM hT
  generalize (⟨(tagL k N.data.toList b.data.toList (maskT k N.data.toList s.data.toList)).toArray⟩ : ByteArray) = T at h3 hT
  generalize (⟨(maskT k N.data.toList s.data.toList).toArray⟩ : ByteArray) = M at h3 hM
  rw [← hC] at hT
  have H1 := Lib.hid h1
  have H2 := Lib.hid h2
  have H3 := Lib.hid h3
  have HK := Lib.hid hk
  clear h1 h2 h3 hk
  have E := KEnv.fresh w k
  have HA := Lib.hid awake5_any
  have tb : decide (400 < (b.size : Int)) = false := by simp; omega
  have ts : decide (400 < (s.size : Int)) = false := by simp; omega
  have tc : IntKind.i64.wrap ((s.size : Int) + 16) = (C.size : Int) := by rw [IntWalk.i64_in _ (by omega), hC]; omega
  have hle : s.size ≤ C.size := by omega
  have hle2 : (s.size : Int) ≤ (C.size : Int) := by omega
  have hle3 : ¬ ((C.size : Int) < (s.size : Int)) := by omega
  have hN12 : (N.size : Int) = 12 := by omega
  clear hC hNs
  go_enter Try.func8, Try.ntmps8
  go_upto_region 1 with fail
  generalize w.alloc (.cells (bs k) 23) = w0 at E ⊢
  go_wp2_with fail
  refine (HA.out _).mono ?_
  rintro e w1 ⟨rfl, hb1⟩
  replace E := E.step hb1
  clear hb1
  go_upto_region 3 with fail
  refine wp_region_noPanic ?_
  refine wp_region_held_drew (S := fun W => Has W w.heap.size 23 (bs k)) (by kernel_rfl) E.1.drew (fun hS => ?_)
  replace E := E.drew
  generalize w1.drew = w2 at E hS ⊢
  refine take1 hS 0 27 (.agg (bs k)) _ rfl (by kernel_rfl) (by kernel_rfl) (by kernel_rfl) (fun _ _ _ h => h) rfl rfl (fun w' h => by exact exec_load_row 23 (.tmp 4) w.heap.size h Try.underlying23 rfl (keyInfo k HK.out) rfl rfl) ?_
  simp only [Act.put, List.setIfInBounds_toArray, List.set_cons_zero, List.set_cons_succ]
  refine take1 hS 1 28 (.int .u64 (n : Int)) _ rfl (by kernel_rfl) (by kernel_rfl) (by kernel_rfl) (fun _ _ _ h => h) rfl rfl (fun w' h => by go_simp) ?_
  simp only [Act.put, List.setIfInBounds_toArray, List.set_cons_zero, List.set_cons_succ]
  refine take1 hS 3 30 (.string b) _ rfl (by kernel_rfl) (by kernel_rfl) (by kernel_rfl) (fun _ _ _ h => h) rfl rfl (fun w' h => by go_simp) ?_
  simp only [Act.put, List.setIfInBounds_toArray, List.set_cons_zero, List.set_cons_succ]
  refine take1 hS 4 31 (.string s) _ rfl (by kernel_rfl) (by kernel_rfl) (by kernel_rfl) (fun _ _ _ h => h) rfl rfl (fun w' h => by go_simp) ?_
  simp only [Act.put, List.setIfInBounds_toArray, List.set_cons_zero, List.set_cons_succ]
  have hcall := H1.out w2
  refine onlyCall 2 29 _ _ _ (by kernel_rfl) rfl rfl rfl (by go_simp) hcall ?_
  rintro e w3 ⟨rfl, hb1⟩
  replace E := E.step hb1
  replace hS := E.1
  refine ⟨_, rfl, hS, ?_⟩
  simp only [Act.put, List.setIfInBounds_toArray, List.set_cons_zero, List.set_cons_succ]
  clear hcall hb1
  have hcall := H2.out w3
  refine onlyCall 5 32 _ _ _ (by kernel_rfl) rfl rfl rfl (by go_simp) hcall ?_
  rintro e w4 ⟨rfl, hb1⟩
  replace E := E.step hb1
  replace hS := E.1
  refine ⟨_, rfl, hS, ?_⟩
  simp only [Act.put, List.setIfInBounds_toArray, List.set_cons_zero, List.set_cons_succ]
  clear hcall hb1
  refine take1 hS 6 26 (.tuple #[.string C, .int .i64 0]) _ rfl (by kernel_rfl) (by kernel_rfl) (by kernel_rfl) (fun _ _ _ h => h) rfl rfl (fun w' h => by go_simp) ?_
  simp only [Act.put, List.setIfInBounds_toArray, List.set_cons_zero, List.set_cons_succ]
  refine take1 hS 7 33 (.string C) _ rfl (by kernel_rfl) (by kernel_rfl) (by kernel_rfl) (fun _ _ _ h => h) rfl rfl (fun w' h => by go_simp) ?_
  simp only [Act.put, List.setIfInBounds_toArray, List.set_cons_zero, List.set_cons_succ]
  refine take1 hS 8 34 (.int .i64 0) _ rfl (by kernel_rfl) (by kernel_rfl) (by kernel_rfl) (fun _ _ _ h => h) rfl rfl (fun w' h => by go_simp) ?_
  simp only [Act.put, List.setIfInBounds_toArray, List.set_cons_zero, List.set_cons_succ]
  refine take1 hS 9 9 (.string C) _ rfl (by kernel_rfl) (by kernel_rfl) (by kernel_rfl) (fun _ _ _ h => h) rfl rfl (fun w' h => by go_simp) ?_
  simp only [Act.put, List.setIfInBounds_toArray, List.set_cons_zero, List.set_cons_succ]
  refine take1 hS 10 10 (.int .i64 0) _ rfl (by kernel_rfl) (by kernel_rfl) (by kernel_rfl) (fun _ _ _ h => h) rfl rfl (fun w' h => by go_simp) ?_
  simp only [Act.put, List.setIfInBounds_toArray, List.set_cons_zero, List.set_cons_succ]
  refine wpAnyH_done (by kernel_rfl) ?_ _
  refine NoPanic.normal ?_
  clear hS
  go_upto_region 6 with fail
  refine wp_region_noPanic ?_
  refine wp_region_held_drew (S := fun W => Has W w.heap.size 23 (bs k)) (by kernel_rfl) E.1.drew (fun hS => ?_)
  replace E := E.drew
  generalize w4.drew = w5 at E hS ⊢
  refine take1 hS 0 46 (.agg (bs k)) _ rfl (by kernel_rfl) (by kernel_rfl) (by kernel_rfl) (fun _ _ _ h => h) rfl rfl (fun w' h => by exact exec_load_row 23 (.tmp 4) w.heap.size h Try.underlying23 rfl (keyInfo k HK.out) rfl rfl) ?_
  simp only [Act.put, List.setIfInBounds_toArray, List.set_cons_zero, List.set_cons_succ]
  refine take1 hS 1 47 (.int .u64 (n : Int)) _ rfl (by kernel_rfl) (by kernel_rfl) (by kernel_rfl) (fun _ _ _ h => h) rfl rfl (fun w' h => by go_simp) ?_
  simp only [Act.put, List.setIfInBounds_toArray, List.set_cons_zero, List.set_cons_succ]
  refine take1 hS 3 49 (.string b) _ rfl (by kernel_rfl) (by kernel_rfl) (by kernel_rfl) (fun _ _ _ h => h) rfl rfl (fun w' h => by go_simp) ?_
  simp only [Act.put, List.setIfInBounds_toArray, List.set_cons_zero, List.set_cons_succ]
  refine take1 hS 4 50 (.string C) _ rfl (by kernel_rfl) (by kernel_rfl) (by kernel_rfl) (fun _ _ _ h => h) rfl rfl (fun w' h => by go_simp) ?_
  simp only [Act.put, List.setIfInBounds_toArray, List.set_cons_zero, List.set_cons_succ]
  refine take1 hS 5 51 (.string s) _ rfl (by kernel_rfl) (by kernel_rfl) (by kernel_rfl) (fun _ _ _ h => h) rfl rfl (fun w' h => by go_simp) ?_
  simp only [Act.put, List.setIfInBounds_toArray, List.set_cons_zero, List.set_cons_succ]
  refine take1 hS 6 52 (.int .i64 (s.size : Int)) _ rfl (by kernel_rfl) (by kernel_rfl) (by kernel_rfl) (fun _ _ _ h => h) rfl rfl (fun w' h => by go_simp) ?_
  simp only [Act.put, List.setIfInBounds_toArray, List.set_cons_zero, List.set_cons_succ]
  refine take1 hS 7 53 (.string M) _ rfl (by kernel_rfl) (by kernel_rfl) (by kernel_rfl) (fun _ _ _ h => h) rfl rfl (fun w' h => by go_simp) ?_
  simp only [Act.put, List.setIfInBounds_toArray, List.set_cons_zero, List.set_cons_succ]
  have hcall := H1.out w5
  refine onlyCall 2 48 _ _ _ (by kernel_rfl) rfl rfl rfl (by go_simp) hcall ?_
  rintro e w6 ⟨rfl, hb1⟩
  replace E := E.step hb1
  replace hS := E.1
  refine ⟨_, rfl, hS, ?_⟩
  simp only [Act.put, List.setIfInBounds_toArray, List.set_cons_zero, List.set_cons_succ]
  clear hcall hb1
  have hcall := H3.out w6
  refine onlyCall 8 54 _ _ _ (by kernel_rfl) rfl rfl rfl (by go_simp) hcall ?_
  rintro e w7 ⟨rfl, hb1⟩
  replace E := E.step hb1
  replace hS := E.1
  refine ⟨_, rfl, hS, ?_⟩
  simp only [Act.put, List.setIfInBounds_toArray, List.set_cons_zero, List.set_cons_succ]
  clear hcall hb1
  refine take1 hS 9 45 (.tuple #[.string T, .int .i64 0]) _ rfl (by kernel_rfl) (by kernel_rfl) (by kernel_rfl) (fun _ _ _ h => h) rfl rfl (fun w' h => by go_simp) ?_
  simp only [Act.put, List.setIfInBounds_toArray, List.set_cons_zero, List.set_cons_succ]
  refine take1 hS 10 55 (.string T) _ rfl (by kernel_rfl) (by kernel_rfl) (by kernel_rfl) (fun _ _ _ h => h) rfl rfl (fun w' h => by go_simp) ?_
  simp only [Act.put, List.setIfInBounds_toArray, List.set_cons_zero, List.set_cons_succ]
  refine take1 hS 11 56 (.int .i64 0) _ rfl (by kernel_rfl) (by kernel_rfl) (by kernel_rfl) (fun _ _ _ h => h) rfl rfl (fun w' h => by go_simp) ?_
  simp only [Act.put, List.setIfInBounds_toArray, List.set_cons_zero, List.set_cons_succ]
  refine take1 hS 12 11 (.string T) _ rfl (by kernel_rfl) (by kernel_rfl) (by kernel_rfl) (fun _ _ _ h => h) rfl rfl (fun w' h => by go_simp) ?_
  simp only [Act.put, List.setIfInBounds_toArray, List.set_cons_zero, List.set_cons_succ]
  refine take1 hS 13 12 (.int .i64 0) _ rfl (by kernel_rfl) (by kernel_rfl) (by kernel_rfl) (fun _ _ _ h => h) rfl rfl (fun w' h => by go_simp) ?_
  simp only [Act.put, List.setIfInBounds_toArray, List.set_cons_zero, List.set_cons_succ]
  refine wpAnyH_done (by kernel_rfl) ?_ _
  refine NoPanic.normal ?_
  clear hS
  go_wp2_with fail
  refine (H1.out _).mono ?_
  rintro e w8 ⟨rfl, hb1⟩
  replace E := E.step hb1
  clear hb1
  go_wp2
  go_ret
  exact ⟨rfl, E.2⟩
theorem tagsLaw_any (k : List UInt8) (hk : k.length = 32) (n : Int) (hn : (Lit.int .u64 n).wf = true) (b s : ByteArray) (w : World) :
    Calls Try.prog 8 #[.agg (bs k), .int .u64 n, .string b, .string s] w fun e w' => e = .returned (.bool true) ∧ Below w.heap.size w w' := by
  obtain ⟨n, rfl⟩ : ∃ x : Nat, n = (x : Int) := by
    have hb := bounds_u64 hn
    exact ⟨n.toNat, by omega⟩
  by_cases hb : 400 < b.size
  · exact tags_over0 k n b s hb w
  · by_cases hs : 400 < s.size
    · exact tags_over1 k n b s (by omega) hs w
    · exact tags_short k hk n b s (by omega) (by omega) w
end Go.Proofs.Ytfhjokbbaoldiaa
