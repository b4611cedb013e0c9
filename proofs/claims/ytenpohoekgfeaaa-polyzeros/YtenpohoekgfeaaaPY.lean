/- The walk of law PolyPlays. -/
import Derived.Test.YtenpohoekgfeaaaPK
import Derived.Test.YtenpohoekgfeaaaIF
import Derived.OpenShut
namespace Go.Proofs.Ytenpohoekgfeaaa
open Go.RowKit
set_option maxHeartbeats 400000 in
theorem plays4_over (k : List UInt8) (s : ByteArray) (hs : 400 < s.size) (w : World) :
    Calls Try.prog 5 #[.agg (bs k), .string s] w fun e w' => e = .returned (.bool true) ∧ Below w.heap.size w w' := by
  have hb : Below w.heap.size w (w.alloc (.cells (bs k) 23)) := (Below.refl _ _).alloc (Nat.le_refl _) _
  have t1 : decide (400 < (s.size : Int)) = true := by simp; omega
  go_enter Try.func5, Try.ntmps5
  go_upto_region 1 with fail
  generalize w.alloc (.cells (bs k) 23) = w0 at hb ⊢
  go_wp2_with fail
  go_at_call 9
  refine (awake4_any _).mono ?_
  rintro e w1 ⟨rfl, hb1⟩
  replace hb := hb.trans (hb1.mono hb.size)
  clear hb1 w0
  go_wp2_with fail
  go_at_call 9
  refine (awake4_any _).mono ?_
  rintro e w2 ⟨rfl, hb1⟩
  replace hb := hb.trans (hb1.mono hb.size)
  clear hb1 w1
  go_wp2
  go_ret
  exact ⟨rfl, hb⟩
set_option maxHeartbeats 1000000 in
theorem plays4_short (k : List UInt8) (hk : k.length = 32) (s : ByteArray) (hs : s.size ≤ 400) (w : World) :
    Calls Try.prog 5 #[.agg (bs k), .string s] w fun e w' => e = .returned (.bool true) ∧ Below w.heap.size w w' := by
  have S1 := sum_any k hk s (by omega)
  have S2 := refSum_any k hk s (by omega)
  have hlp : (polyL k s.data.toList).length = 16 := leB_length _ _
  have q1 := eq16 _ _ hlp hlp
  rw [beq_self_eq_true] at q1
  generalize polyL k s.data.toList = pk at S1 S2 q1
  have HS1 := Lib.hid S1
  have HS2 := Lib.hid S2
  have HQ1 := Lib.hid q1
  have HK := Lib.hid hk
  clear S1 S2 q1 hlp hk
  have i1 : Has (w.alloc (.cells (bs k) 23)) w.heap.size 23 (bs k) := Has.fresh w 23 _
  have hb : Below w.heap.size w (w.alloc (.cells (bs k) 23)) := (Below.refl _ _).alloc (Nat.le_refl _) _
  have t1 : decide (400 < (s.size : Int)) = false := by simp; omega
  go_enter Try.func5, Try.ntmps5
  go_upto_region 1 with fail
  generalize w.alloc (.cells (bs k) 23) = w0 at i1 hb ⊢
  go_wp2_with fail
  go_at_call 9
  refine (awake4_any _).mono ?_
  rintro e w1 ⟨rfl, hb1⟩
  replace i1 := i1.below hb1 i1.lt
  replace hb := hb.trans (hb1.mono hb.size)
  clear hb1 w0
  go_wp2_with fail
  refine wp_region_noPanic ?_
  refine wp_region_held_drew (S := fun W => Has W w.heap.size 23 (bs k)) (by kernel_rfl) i1.drew (fun hS => ?_)
  replace hb := hb.drew
  replace i1 := i1.drew
  generalize w1.drew = w2 at hb i1 hS ⊢
  refine take1 hS 0 13 (.agg (bs k)) _ rfl (by kernel_rfl) (by kernel_rfl) (by kernel_rfl) (fun _ _ _ h => h) rfl rfl (fun w' h => by exact exec_load_row 23 (.tmp 2) w.heap.size h Try.underlying23 rfl (infoKey k HK.out) rfl rfl) ?_
  simp only [Act.put, List.setIfInBounds_toArray, List.set_cons_zero, List.set_cons_succ]
  refine take1 hS 1 14 (.string s) _ rfl (by kernel_rfl) (by kernel_rfl) (by kernel_rfl) (fun _ _ _ h => h) rfl rfl (fun w' h => by go_simp) ?_
  simp only [Act.put, List.setIfInBounds_toArray, List.set_cons_zero, List.set_cons_succ]
  refine take1 hS 3 16 (.agg (bs k)) _ rfl (by kernel_rfl) (by kernel_rfl) (by kernel_rfl) (fun _ _ _ h => h) rfl rfl (fun w' h => by exact exec_load_row 23 (.tmp 2) w.heap.size h Try.underlying23 rfl (infoKey k HK.out) rfl rfl) ?_
  simp only [Act.put, List.setIfInBounds_toArray, List.set_cons_zero, List.set_cons_succ]
  refine take1 hS 4 17 (.string s) _ rfl (by kernel_rfl) (by kernel_rfl) (by kernel_rfl) (fun _ _ _ h => h) rfl rfl (fun w' h => by go_simp) ?_
  simp only [Act.put, List.setIfInBounds_toArray, List.set_cons_zero, List.set_cons_succ]
  have hcall := HS1.out w2
  refine onlyCall 2 15 _ _ _ (by kernel_rfl) rfl rfl rfl (by go_simp) hcall ?_
  rintro e w3 ⟨rfl, hb1⟩
  replace i1 := i1.below hb1 i1.lt
  replace hb := hb.trans (hb1.mono hb.size)
  replace hS := i1
  refine ⟨_, rfl, hS, ?_⟩
  simp only [Act.put, List.setIfInBounds_toArray, List.set_cons_zero, List.set_cons_succ]
  clear hcall hb1
  have hcall := HS2.out w3
  refine onlyCall 5 18 _ _ _ (by kernel_rfl) rfl rfl rfl (by go_simp) hcall ?_
  rintro e w4 ⟨rfl, hb1⟩
  replace i1 := i1.below hb1 i1.lt
  replace hb := hb.trans (hb1.mono hb.size)
  replace hS := i1
  refine ⟨_, rfl, hS, ?_⟩
  simp only [Act.put, List.setIfInBounds_toArray, List.set_cons_zero, List.set_cons_succ]
  clear hcall hb1
  refine take1 hS 6 19 (.bool true) _ rfl (by kernel_rfl) (by kernel_rfl) (by kernel_rfl) (fun _ _ _ h => h) rfl rfl (fun w' h => by exact exec_eq16 (.tmp 15) (.tmp 18) _ _ _ rfl rfl rfl HQ1.out) ?_
  simp only [Act.put, List.setIfInBounds_toArray, List.set_cons_zero, List.set_cons_succ]
  refine take1 hS 7 4 (.bool true) _ rfl (by kernel_rfl) (by kernel_rfl) (by kernel_rfl) (fun _ _ _ h => h) rfl rfl (fun w' h => by go_simp) ?_
  simp only [Act.put, List.setIfInBounds_toArray, List.set_cons_zero, List.set_cons_succ]
  refine wpAnyH_done (by kernel_rfl) ?_ _
  refine NoPanic.normal ?_
  go_wp2
  go_ret
  exact ⟨rfl, hb⟩
theorem playsLaw4_any (k : List UInt8) (hk : k.length = 32) (s : ByteArray) (w : World) :
    Calls Try.prog 5 #[.agg (bs k), .string s] w fun e w' => e = .returned (.bool true) ∧ Below w.heap.size w w' := by
  rcases Nat.lt_or_ge 400 s.size with h | h
  · exact plays4_over k s h w
  · exact plays4_short k hk s h w
end Go.Proofs.Ytenpohoekgfeaaa
