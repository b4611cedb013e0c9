/- The walk of law MacKeys. -/
import Derived.Test.YtolipnjlbdbofaaDoorMJ
namespace Go.Proofs.YtolipnjlbdbofaaDoor
open Go.RowKit
set_option maxHeartbeats 400000 in
theorem keysLaw_over (root : List UInt8) (info : ByteArray) (n : UInt8) (h : 300 < info.size) (w : World) (hT : HasK w) :
    Calls Tryd.prog 7 #[.agg (bs root), .string info, .int .u8 (n.toNat : Int)] w fun e w' => e = .returned (.bool true) ∧ Below w.heap.size w w' := by
  have hb : Below w.heap.size w (w.alloc (.cells (bs root) 25)) := (Below.refl _ _).alloc (Nat.le_refl _) _
  have E : HasK (w.alloc (.cells (bs root) 25)) ∧ Below w.heap.size w (w.alloc (.cells (bs root) 25)) := ⟨hT.below hT.lt hb, hb⟩
  clear hb
  have t1 : decide (300 < (info.size : Int)) = true := by simp; omega
  go_enter Tryd.func7, Tryd.ntmps7
  go_wp2_with (go_at_call 8; refine (awake2_any _ E.1).mono ?_; rintro e wq ⟨rfl, hbq⟩; replace E : HasK wq ∧ Below w.heap.size w wq := ⟨E.1.below E.1.lt hbq, E.2.trans (hbq.mono E.2.size)⟩)
  go_ret
  exact ⟨rfl, E.2⟩
set_option maxHeartbeats 1000000 in
theorem keysLaw_short (root : List UInt8) (hrl : root.length = 32) (info : ByteArray) (n : UInt8) (hs : info.size ≤ 300) (w : World) (hT : HasK w) :
    Calls Tryd.prog 7 #[.agg (bs root), .string info, .int .u8 (n.toNat : Int)] w fun e w' => e = .returned (.bool true) ∧ Below w.heap.size w w' := by
  have t1 : decide (300 < (info.size : Int)) = false := by simp; omega
  obtain ⟨N, hN⟩ : ∃ N, N = n.toNat % 6 := ⟨_, rfl⟩
  have c1 := keys_any root hrl info (by omega) N (by omega)
  have eN : (n.toNat : Int) % 6 = (N : Int) := by omega
  have b1 : n.toNat < 256 := n.toNat_lt
  have HC1 := Lib.hid c1
  have hNb : N < 6 := by omega
  clear c1 hN
  have hu32 := Tryd.underlying25
  have HRL := Lib.hid hrl
  have hb : Below w.heap.size w (w.alloc (.cells (bs root) 25)) := (Below.refl _ _).alloc (Nat.le_refl _) _
  have E : NEnv w root (w.alloc (.cells (bs root) 25)) := ⟨Has.fresh w 25 _, hT.below hT.lt hb, hb⟩
  clear hb
  go_enter Tryd.func7, Tryd.ntmps7
  go_wp2_with fail
  generalize w.alloc (.cells (bs root) 25) = wa at E ⊢
  refine (awake2_any _ E.2.1).mono ?_
  rintro e w1 ⟨rfl, hbq⟩
  replace E := E.step hbq
  clear hbq wa
  go_wp2_with (refine wpList_load_row rfl 25 (.tmp 3) rfl w.heap.size rfl 25 (bs root) (0, 0) _ E.1 Tryd.underlying25 rfl (info32 root HRL.out) ?_)
  refine (HC1.out _ E.2.1).mono ?_
  rintro e w2 ⟨gk, rfl, hgk, hka, hbq⟩
  replace E := E.step hbq
  clear hbq HC1 hgk
  go_wp2
  go_loopw [8, 9] (fun s i wr => ∃ k : Nat, k ≤ N ∧ s = .string ⟨(keyN root info.data.toList k).toArray⟩ ∧ i = .int .i64 (k : Int) ∧ NEnv w root wr ∧ Has wr gk 25 (bs (flatK root info.data.toList N))) (fun _ i _ => 10 - (intOf i).toNat)
  case atStart => exact ⟨0, by omega, rfl, rfl, E, hka⟩
  case round =>
    clear hka E
    obtain ⟨k, hkN, rfl, rfl, E, hka⟩ := hrel
    by_cases c1 : k < N
    · have ra := hka.rangeMid (k * 32) (keyN root info.data.toList (k + 1)) (by rw [Nat.mul_comm]; exact flatK_get _ _ _ _ c1)
      have hl := keyN_length root info.data.toList k
      have hle := keyN_le root info.data.toList k
      have e1 : hmacL root (keyN root info.data.toList k ++ info.data.toList ++ [UInt8.ofNat (k + 1)]) = keyN root info.data.toList (k + 1) := rfl
      generalize hKe : keyN root info.data.toList (k + 1) = K at ra hl e1
      generalize keyN root info.data.toList k = A at e1 hle ⊢
      generalize hce : UInt8.ofNat (k + 1) = c at e1
      have hcn : (c.toNat : Int) = (k : Int) + 1 := by rw [← hce]; exact ofNat_toNat k (by omega)
      have hm := macSum_any ⟨root.toArray⟩ ((⟨A.toArray⟩ ++ info) ++ ⟨#[c]⟩) (by rw [str_size, hrl]; omega) (by rw [ByteArray.size_append, ByteArray.size_append, str_size]; show _ + _ + 1 ≤ _; omega)
      have el : ((⟨A.toArray⟩ ++ info) ++ ⟨#[c]⟩ : ByteArray).data.toList = A ++ info.data.toList ++ [c] := by
        rw [ByteArray.data_append, Array.toList_append, ByteArray.data_append, Array.toList_append]
      rw [str_list, el, e1] at hm
      have HM := Lib.hid hm
      have HKE := Lib.hid hKe
      clear hm el e1 hKe hce
      have heq := sameKey K hl
      have hiK : (Tryd.prog.info? 25).map (·.size) = some (K.map B8).length := by rw [List.length_map, hl]; kernel_rfl
      have hya : ∀ w', w'.rangeAt gk (k * 32) (K.map B8) → (Instr.loadAt 25 (.pointer (some ⟨gk, k * 32, none⟩))).run Tryd.prog w' = .ok (.agg (bs K)) w' := fun w' h => run_loadAt_mid (P := Tryd.prog) w' gk (k * 32) 25 (K.map B8) _ h hu32 rfl hiK
      have hcat1 : ¬ (9223372036854775807 < A.length + info.size) := by omega
      have hcat2 : ¬ (9223372036854775807 < A.length + info.size + 1) := by omega
      have w1' : IntKind.i64.wrap ((k : Int) + 1) = (k : Int) + 1 := IntWalk.i64_in _ (by omega)
      have w2' : IntKind.u8.wrap ((k : Int) + 1) = (c.toNat : Int) := by rw [hcn, IntKind.wrap_u8]; omega
      have HL := Lib.hid hl
      clear hiK hl hcn
      go_wp2
      refine wp_region_noPanic ?_
      replace E := E.drew
      replace hka := hka.drew
      refine wp_region_held_drew (S := fun w' => w'.rangeAt gk (k * 32) (K.map B8) ∧ (convert 27 9 (.slice (some ⟨w.heap.size, 0, none⟩) 32 32)).run Tryd.prog w' = .ok (.string ⟨root.toArray⟩) w') (by kernel_rfl) ⟨ra, conv_bytes E.1 32 32 HRL.out⟩ (fun hS => ?_)
      refine take1 hS 0 30 (.slice (some ⟨gk, 0, none⟩) N N) _ rfl (by kernel_rfl) (by kernel_rfl) (by kernel_rfl) (fun _ _ _ h => h) rfl rfl (fun w' h => by go_simp) ?_
      simp only [Act.put, List.setIfInBounds_toArray, List.set_cons_zero, List.set_cons_succ]
      refine take1 hS 1 31 (.int .i64 (k : Int)) _ rfl (by kernel_rfl) (by kernel_rfl) (by kernel_rfl) (fun _ _ _ h => h) rfl rfl (fun w' h => by go_simp) ?_
      simp only [Act.put, List.setIfInBounds_toArray, List.set_cons_zero, List.set_cons_succ]
      refine take1 hS 2 32 (.pointer (some ⟨gk, k * 32, none⟩)) _ rfl (by kernel_rfl) (by kernel_rfl) (by kernel_rfl) (fun _ _ _ h => h) rfl rfl (fun w' h => by go_simp) ?_
      simp only [Act.put, List.setIfInBounds_toArray, List.set_cons_zero, List.set_cons_succ]
      refine take1 hS 3 33 (.agg (bs K)) _ rfl (by kernel_rfl) (by kernel_rfl) (by kernel_rfl) (fun _ _ _ h => h) rfl rfl (fun w' h => by have := hya w' h.1; unfold execOp; simp [this, Act.eval]) ?_
      simp only [Act.put, List.setIfInBounds_toArray, List.set_cons_zero, List.set_cons_succ]
      refine take1 hS 4 34 (.slice (some ⟨w.heap.size, 0, none⟩) 32 32) _ rfl (by kernel_rfl) (by kernel_rfl) (by kernel_rfl) (fun _ _ _ h => h) rfl rfl (fun w' h => by go_simp) ?_
      simp only [Act.put, List.setIfInBounds_toArray, List.set_cons_zero, List.set_cons_succ]
      refine take1 hS 5 35 (.string ⟨root.toArray⟩) _ rfl (by kernel_rfl) (by kernel_rfl) (by kernel_rfl) (fun _ _ _ h => h) rfl rfl (fun w' h => by have := h.2; go_simp) ?_
      simp only [Act.put, List.setIfInBounds_toArray, List.set_cons_zero, List.set_cons_succ]
      refine take1 hS 6 36 (.string ⟨A.toArray⟩) _ rfl (by kernel_rfl) (by kernel_rfl) (by kernel_rfl) (fun _ _ _ h => h) rfl rfl (fun w' h => by go_simp) ?_
      simp only [Act.put, List.setIfInBounds_toArray, List.set_cons_zero, List.set_cons_succ]
      refine take1 hS 7 37 (.string info) _ rfl (by kernel_rfl) (by kernel_rfl) (by kernel_rfl) (fun _ _ _ h => h) rfl rfl (fun w' h => by go_simp) ?_
      simp only [Act.put, List.setIfInBounds_toArray, List.set_cons_zero, List.set_cons_succ]
      refine take1 hS 8 38 (.string (⟨A.toArray⟩ ++ info)) _ rfl (by kernel_rfl) (by kernel_rfl) (by kernel_rfl) (fun _ _ _ h => h) rfl rfl (fun w' h => by go_simp) ?_
      simp only [Act.put, List.setIfInBounds_toArray, List.set_cons_zero, List.set_cons_succ]
      refine take1 hS 9 39 (.int .i64 (k : Int)) _ rfl (by kernel_rfl) (by kernel_rfl) (by kernel_rfl) (fun _ _ _ h => h) rfl rfl (fun w' h => by go_simp) ?_
      simp only [Act.put, List.setIfInBounds_toArray, List.set_cons_zero, List.set_cons_succ]
      refine take1 hS 10 40 (.int .i64 ((k : Int) + 1)) _ rfl (by kernel_rfl) (by kernel_rfl) (by kernel_rfl) (fun _ _ _ h => h) rfl rfl (fun w' h => by go_simp) ?_
      simp only [Act.put, List.setIfInBounds_toArray, List.set_cons_zero, List.set_cons_succ]
      refine take1 hS 11 41 (.int .u8 (c.toNat : Int)) _ rfl (by kernel_rfl) (by kernel_rfl) (by kernel_rfl) (fun _ _ _ h => h) rfl rfl (fun w' h => by go_simp) ?_
      simp only [Act.put, List.setIfInBounds_toArray, List.set_cons_zero, List.set_cons_succ]
      have hN := Has.fresh wr.drew 5 (bs [c])
      have hbA : Below wr.drew.heap.size wr.drew (wr.drew.alloc (.cells (bs [c]) 5)) := (Below.refl _ _).alloc (Nat.le_refl _) _
      replace E := E.step hbA
      replace hka := hka.below hbA hka.lt
      replace ra : (wr.drew.alloc (.cells (bs [c]) 5)).rangeAt gk (k * 32) (K.map B8) := World.rangeAt_alloc ra _
      have hcv := conv_bytes hN 1 1 rfl
      clear hS hbA
      refine onlyVal 12 42 (.slice (some ⟨wr.drew.heap.size, 0, none⟩) 1 1) (wr.drew.alloc (.cells (bs [c]) 5)) _ (by kernel_rfl) rfl rfl rfl (by go_simp; rfl) ⟨ra, conv_bytes E.1 32 32 HRL.out⟩ ?_
      simp only [Act.put, List.setIfInBounds_toArray, List.set_cons_zero, List.set_cons_succ]
      generalize wr.drew.alloc (.cells (bs [c]) 5) = wb at E hka ra hcv ⊢
      generalize wr.drew.heap.size = gc at hcv ⊢
      have hS := And.intro ra (conv_bytes E.1 32 32 HRL.out)
      refine onlyVal 13 43 (.string ⟨#[c]⟩) wb _ (by kernel_rfl) rfl rfl rfl (by go_simp) hS ?_
      simp only [Act.put, List.setIfInBounds_toArray, List.set_cons_zero, List.set_cons_succ]
      refine take1 hS 14 44 (.string (⟨A.toArray⟩ ++ info ++ ⟨#[c]⟩)) _ rfl (by kernel_rfl) (by kernel_rfl) (by kernel_rfl) (fun _ _ _ h => h) rfl rfl (fun w' h => by go_simp) ?_
      simp only [Act.put, List.setIfInBounds_toArray, List.set_cons_zero, List.set_cons_succ]
      have hcall := HM.out wb E.2.1
      refine onlyCall 15 45 _ _ _ (by kernel_rfl) rfl rfl rfl (by go_simp) hcall ?_
      rintro e wq ⟨rfl, hbq⟩
      replace E := E.step hbq
      replace hka := hka.below hbq hka.lt
      have rq := hka.rangeMid (k * 32) K (by rw [Nat.mul_comm, ← HKE.out]; exact flatK_get _ _ _ _ c1)
      refine ⟨_, rfl, ⟨rq, conv_bytes E.1 32 32 HRL.out⟩, ?_⟩
      simp only [Act.put, List.setIfInBounds_toArray, List.set_cons_zero, List.set_cons_succ]
      clear hS ra hcv hbq HM hcall
      have hS := And.intro rq (conv_bytes E.1 32 32 HRL.out)
      refine take1 hS 16 46 (.bool false) _ rfl (by kernel_rfl) (by kernel_rfl) (by kernel_rfl) (fun _ _ _ h => h) rfl rfl (fun w' h => by go_simp) ?_
      simp only [Act.put, List.setIfInBounds_toArray, List.set_cons_zero, List.set_cons_succ]
      refine wpAnyH_done (by kernel_rfl) ?_ _
      refine NoPanic.normal ?_
      clear hS hya heq
      have hcv2 := conv_range rq 32 32 HL.out
      go_wp2
      go_roundw
      case rel => exact ⟨k + 1, by omega, by rw [HKE.out], by go_num, E, hka⟩
      case measure => simp [intOf]; omega
    · have hc2 : k = N := by omega
      subst hc2
      have t5 : decide ((k : Int) < (k : Int)) = false := by simp
      go_wp2
      go_ret
      exact ⟨rfl, E.2.2⟩
theorem keysLaw_any (root : List UInt8) (hrl : root.length = 32) (info : ByteArray) (x : Int) (hx : (Lit.int .u8 x).wf = true) (w : World) (hT : HasK w) :
    Calls Tryd.prog 7 #[.agg (bs root), .string info, .int .u8 x] w fun e w' => e = .returned (.bool true) ∧ Below w.heap.size w w' := by
  have hb := bounds_u8 hx
  obtain ⟨n, rfl⟩ : ∃ n : UInt8, x = (n.toNat : Int) := ⟨UInt8.ofNat x.toNat, by rw [UInt8.toNat_ofNat', Nat.mod_eq_of_lt (by omega)]; omega⟩
  by_cases h : 300 < info.size
  · exact keysLaw_over root info n h w hT
  · exact keysLaw_short root hrl info n (by omega) w hT
end Go.Proofs.YtolipnjlbdbofaaDoor
