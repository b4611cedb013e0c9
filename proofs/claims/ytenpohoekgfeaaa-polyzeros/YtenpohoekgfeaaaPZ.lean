/- The walk of law PolyZeros. -/
import Derived.Test.YtenpohoekgfeaaaPY
namespace Go.Proofs.Ytenpohoekgfeaaa
open Go.RowKit
set_option maxHeartbeats 400000 in
theorem zeros_over (k : List UInt8) (s : ByteArray) (hs : 400 < s.size) (n : Nat) (w : World) :
    Calls Try.prog 6 #[.agg (bs k), .string s, .int .u8 (n : Int)] w fun e w' => e = .returned (.bool true) ∧ Below w.heap.size w w' := by
  have hb : Below w.heap.size w (w.alloc (.cells (bs k) 23)) := (Below.refl _ _).alloc (Nat.le_refl _) _
  have t1 : decide (400 < (s.size : Int)) = true := by simp; omega
  go_enter Try.func6, Try.ntmps6
  go_upto_region 1 with fail
  generalize w.alloc (.cells (bs k) 23) = w0 at hb ⊢
  go_wp2_with fail
  go_at_call 9
  refine (awake4_any _).mono ?_
  rintro e w1 ⟨rfl, hb1⟩
  replace hb := hb.trans (hb1.mono hb.size)
  clear hb1 w0
  go_wp2_with fail
  go_at_call 9
  refine (awake4_any _).mono ?_
  rintro e w2 ⟨rfl, hb1⟩
  replace hb := hb.trans (hb1.mono hb.size)
  clear hb1 w1
  go_wp2
  go_ret
  exact ⟨rfl, hb⟩
set_option maxHeartbeats 2000000 in
theorem zeros_short (k : List UInt8) (hk : k.length = 32) (s : ByteArray) (hs : s.size ≤ 400) (n : Nat) (hn : n < 256) (w : World) :
    Calls Try.prog 6 #[.agg (bs k), .string s, .int .u8 (n : Int)] w fun e w' => e = .returned (.bool true) ∧ Below w.heap.size w w' := by
  obtain ⟨m, hm⟩ : ∃ m, m = n % 20 := ⟨_, rfl⟩
  have hm20 : m < 20 := by omega
  have hmod : (n : Int).tmod 20 = (m : Int) := by rw [hm]; exact tmodN n 20
  obtain ⟨z, hz⟩ : ∃ z : ByteArray, z = ⟨(List.replicate m 0).toArray⟩ := ⟨_, rfl⟩
  have hzs : z.size = m := by rw [hz, str_size, List.length_replicate]
  obtain ⟨t, ht⟩ : ∃ t : ByteArray, t = s ++ z := ⟨_, rfl⟩
  have hts : t.size ≤ 500 := by rw [ht, ByteArray.size_append, hzs]; omega
  have hcat : ¬ (9223372036854775807 < s.size + z.size) := by omega
  have S1 := sum_any k hk s (by omega)
  have S2 := sum_any k hk t (by omega)
  have S3 := refSum_any k hk s (by omega)
  have S4 := refSum_any k hk t (by omega)
  have hl1 : (polyL k s.data.toList).length = 16 := leB_length _ _
  have hl2 : (polyL k t.data.toList).length = 16 := leB_length _ _
  have q1 := eq16 _ _ hl1 hl2
  generalize polyL k s.data.toList = pk at S1 S3 q1
  generalize polyL k t.data.toList = pt at S2 S4 q1
  generalize (pk == pt) = b at q1
  have HS1 := Lib.hid S1
  have HS2 := Lib.hid S2
  have HS3 := Lib.hid S3
  have HS4 := Lib.hid S4
  have HQ1 := Lib.hid q1
  have HK := Lib.hid hk
  have HZ := Lib.hid hz
  have HT := Lib.hid ht
  have HZS := Lib.hid hzs
  clear S1 S2 S3 S4 q1 hl1 hl2 hk hz ht hts hm hzs
  have i1 : Has (w.alloc (.cells (bs k) 23)) w.heap.size 23 (bs k) := Has.fresh w 23 _
  have hb : Below w.heap.size w (w.alloc (.cells (bs k) 23)) := (Below.refl _ _).alloc (Nat.le_refl _) _
  have t1 : decide (400 < (s.size : Int)) = false := by simp; omega
  go_enter Try.func6, Try.ntmps6
  go_upto_region 1 with fail
  generalize w.alloc (.cells (bs k) 23) = w0 at i1 hb ⊢
  go_wp2_with fail
  go_at_call 9
  refine (awake4_any _).mono ?_
  rintro e w1 ⟨rfl, hb1⟩
  replace i1 := i1.below hb1 i1.lt
  replace hb := hb.trans (hb1.mono hb.size)
  clear hb1 w0
  have hmk := make_bytes m (by omega) w1
  have hcv := conv_bytes (Has.fresh w1 5 (bs (List.replicate m 0))) m m List.length_replicate
  rw [← HZ.out] at hcv
  replace i1 := i1.alloc (.cells (bs (List.replicate m 0)) 5)
  replace hb := hb.alloc hb.size (.cells (bs (List.replicate m 0)) 5)
  go_wp2_with fail
  rw [← HT.out]
  generalize w1.alloc (.cells (bs (List.replicate m 0)) 5) = w2 at i1 hb ⊢
  clear hmk hcv
  refine wp_region_noPanic ?_
  refine wp_region_held_drew (S := fun W => Has W w.heap.size 23 (bs k)) (by kernel_rfl) i1.drew (fun hS => ?_)
  replace hb := hb.drew
  replace i1 := i1.drew
  generalize w2.drew = w3 at hb i1 hS ⊢
  refine take1 hS 0 23 (.agg (bs k)) _ rfl (by kernel_rfl) (by kernel_rfl) (by kernel_rfl) (fun _ _ _ h => h) rfl rfl (fun w' h => by exact exec_load_row 23 (.tmp 3) w.heap.size h Try.underlying23 rfl (infoKey k HK.out) rfl rfl) ?_
  simp only [Act.put, List.setIfInBounds_toArray, List.set_cons_zero, List.set_cons_succ]
  refine take1 hS 1 24 (.string s) _ rfl (by kernel_rfl) (by kernel_rfl) (by kernel_rfl) (fun _ _ _ h => h) rfl rfl (fun w' h => by go_simp) ?_
  simp only [Act.put, List.setIfInBounds_toArray, List.set_cons_zero, List.set_cons_succ]
  refine take1 hS 3 26 (.agg (bs k)) _ rfl (by kernel_rfl) (by kernel_rfl) (by kernel_rfl) (fun _ _ _ h => h) rfl rfl (fun w' h => by exact exec_load_row 23 (.tmp 3) w.heap.size h Try.underlying23 rfl (infoKey k HK.out) rfl rfl) ?_
  simp only [Act.put, List.setIfInBounds_toArray, List.set_cons_zero, List.set_cons_succ]
  refine take1 hS 4 27 (.string t) _ rfl (by kernel_rfl) (by kernel_rfl) (by kernel_rfl) (fun _ _ _ h => h) rfl rfl (fun w' h => by go_simp) ?_
  simp only [Act.put, List.setIfInBounds_toArray, List.set_cons_zero, List.set_cons_succ]
  refine take1 hS 7 30 (.agg (bs k)) _ rfl (by kernel_rfl) (by kernel_rfl) (by kernel_rfl) (fun _ _ _ h => h) rfl rfl (fun w' h => by exact exec_load_row 23 (.tmp 3) w.heap.size h Try.underlying23 rfl (infoKey k HK.out) rfl rfl) ?_
  simp only [Act.put, List.setIfInBounds_toArray, List.set_cons_zero, List.set_cons_succ]
  refine take1 hS 8 31 (.string s) _ rfl (by kernel_rfl) (by kernel_rfl) (by kernel_rfl) (fun _ _ _ h => h) rfl rfl (fun w' h => by go_simp) ?_
  simp only [Act.put, List.setIfInBounds_toArray, List.set_cons_zero, List.set_cons_succ]
  refine take1 hS 10 33 (.agg (bs k)) _ rfl (by kernel_rfl) (by kernel_rfl) (by kernel_rfl) (fun _ _ _ h => h) rfl rfl (fun w' h => by exact exec_load_row 23 (.tmp 3) w.heap.size h Try.underlying23 rfl (infoKey k HK.out) rfl rfl) ?_
  simp only [Act.put, List.setIfInBounds_toArray, List.set_cons_zero, List.set_cons_succ]
  refine take1 hS 11 34 (.string t) _ rfl (by kernel_rfl) (by kernel_rfl) (by kernel_rfl) (fun _ _ _ h => h) rfl rfl (fun w' h => by go_simp) ?_
  simp only [Act.put, List.setIfInBounds_toArray, List.set_cons_zero, List.set_cons_succ]
  have hcall := HS1.out w3
  refine onlyCall 2 25 _ _ _ (by kernel_rfl) rfl rfl rfl (by go_simp) hcall ?_
  rintro e w4 ⟨rfl, hb1⟩
  replace i1 := i1.below hb1 i1.lt
  replace hb := hb.trans (hb1.mono hb.size)
  replace hS := i1
  refine ⟨_, rfl, hS, ?_⟩
  simp only [Act.put, List.setIfInBounds_toArray, List.set_cons_zero, List.set_cons_succ]
  clear hcall hb1
  have hcall := HS2.out w4
  refine onlyCall 5 28 _ _ _ (by kernel_rfl) rfl rfl rfl (by go_simp) hcall ?_
  rintro e w5 ⟨rfl, hb1⟩
  replace i1 := i1.below hb1 i1.lt
  replace hb := hb.trans (hb1.mono hb.size)
  replace hS := i1
  refine ⟨_, rfl, hS, ?_⟩
  simp only [Act.put, List.setIfInBounds_toArray, List.set_cons_zero, List.set_cons_succ]
  clear hcall hb1
  refine take1 hS 6 29 (.bool b) _ rfl (by kernel_rfl) (by kernel_rfl) (by kernel_rfl) (fun _ _ _ h => h) rfl rfl (fun w' h => by exact exec_eq16 (.tmp 25) (.tmp 28) _ _ _ rfl rfl rfl HQ1.out) ?_
  simp only [Act.put, List.setIfInBounds_toArray, List.set_cons_zero, List.set_cons_succ]
  have hcall := HS3.out w5
  refine onlyCall 9 32 _ _ _ (by kernel_rfl) rfl rfl rfl (by go_simp) hcall ?_
  rintro e w6 ⟨rfl, hb1⟩
  replace i1 := i1.below hb1 i1.lt
  replace hb := hb.trans (hb1.mono hb.size)
  replace hS := i1
  refine ⟨_, rfl, hS, ?_⟩
  simp only [Act.put, List.setIfInBounds_toArray, List.set_cons_zero, List.set_cons_succ]
  clear hcall hb1
  have hcall := HS4.out w6
  refine onlyCall 12 35 _ _ _ (by kernel_rfl) rfl rfl rfl (by go_simp) hcall ?_
  rintro e w7 ⟨rfl, hb1⟩
  replace i1 := i1.below hb1 i1.lt
  replace hb := hb.trans (hb1.mono hb.size)
  replace hS := i1
  refine ⟨_, rfl, hS, ?_⟩
  simp only [Act.put, List.setIfInBounds_toArray, List.set_cons_zero, List.set_cons_succ]
  clear hcall hb1
  refine take1 hS 13 36 (.bool b) _ rfl (by kernel_rfl) (by kernel_rfl) (by kernel_rfl) (fun _ _ _ h => h) rfl rfl (fun w' h => by exact exec_eq16 (.tmp 32) (.tmp 35) _ _ _ rfl rfl rfl HQ1.out) ?_
  simp only [Act.put, List.setIfInBounds_toArray, List.set_cons_zero, List.set_cons_succ]
  have hbb : (b == b) = true := beq_self_eq_true b
  refine take1 hS 14 37 (.bool true) _ rfl (by kernel_rfl) (by kernel_rfl) (by kernel_rfl) (fun _ _ _ h => h) rfl rfl (fun w' h => by go_simp) ?_
  simp only [Act.put, List.setIfInBounds_toArray, List.set_cons_zero, List.set_cons_succ]
  refine take1 hS 15 6 (.bool true) _ rfl (by kernel_rfl) (by kernel_rfl) (by kernel_rfl) (fun _ _ _ h => h) rfl rfl (fun w' h => by go_simp) ?_
  simp only [Act.put, List.setIfInBounds_toArray, List.set_cons_zero, List.set_cons_succ]
  refine wpAnyH_done (by kernel_rfl) ?_ _
  refine NoPanic.normal ?_
  go_wp2
  go_ret
  exact ⟨rfl, hb⟩
theorem zerosLaw_any (k : List UInt8) (hk : k.length = 32) (s : ByteArray) (n : Int) (hn : (Lit.int .u8 n).wf = true) (w : World) :
    Calls Try.prog 6 #[.agg (bs k), .string s, .int .u8 n] w fun e w' => e = .returned (.bool true) ∧ Below w.heap.size w w' := by
  have hb := bounds_u8 hn
  obtain ⟨N, rfl⟩ := Int.eq_ofNat_of_zero_le hb.1
  rcases Nat.lt_or_ge 400 s.size with h | h
  · exact zeros_over k s h N w
  · exact zeros_short k hk s h N (by omega) w
end Go.Proofs.Ytenpohoekgfeaaa
