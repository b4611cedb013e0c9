/- The walk of law MacFirst. -/
import Derived.Test.YtolipnjlbdbofaaDoorMI
import Derived.Test.YtolipnjlbdbofaaDoorME
import Derived.Test.YtolipnjlbdbofaaDoorJ
import Derived.OpenShut
namespace Go.Proofs.YtolipnjlbdbofaaDoor
open Go.RowKit
set_option maxHeartbeats 400000 in
theorem firstLaw_over (root : List UInt8) (info : ByteArray) (n m : UInt8) (h : 300 < info.size) (w : World) (hT : HasK w) :
    Calls Tryd.prog 4 #[.agg (bs root), .string info, .int .u8 (n.toNat : Int), .int .u8 (m.toNat : Int)] w fun e w' => e = .returned (.bool true) ∧ Below w.heap.size w w' := by
  have hb : Below w.heap.size w (w.alloc (.cells (bs root) 25)) := (Below.refl _ _).alloc (Nat.le_refl _) _
  have E : HasK (w.alloc (.cells (bs root) 25)) ∧ Below w.heap.size w (w.alloc (.cells (bs root) 25)) := ⟨hT.below hT.lt hb, hb⟩
  clear hb
  have t1 : decide (300 < (info.size : Int)) = true := by simp; omega
  go_enter Tryd.func4, Tryd.ntmps4
  go_wp2_with (go_at_call 8; refine (awake2_any _ E.1).mono ?_; rintro e wq ⟨rfl, hbq⟩; replace E : HasK wq ∧ Below w.heap.size w wq := ⟨E.1.below E.1.lt hbq, E.2.trans (hbq.mono E.2.size)⟩)
  go_ret
  exact ⟨rfl, E.2⟩
/-- what memory holds in the midst of the law -/
def NEnv (w : World) (root : List UInt8) (W : World) : Prop := Has W w.heap.size 25 (bs root) ∧ HasK W ∧ Below w.heap.size w W
theorem NEnv.step {w : World} {root : List UInt8} {W W' : World} (h : NEnv w root W) (hb : Below W.heap.size W W') : NEnv w root W' :=
  ⟨h.1.below hb h.1.lt, h.2.1.below h.2.1.lt hb, h.2.2.trans (hb.mono h.2.2.size)⟩
theorem NEnv.drew {w : World} {root : List UInt8} {W : World} (h : NEnv w root W) : NEnv w root W.drew := ⟨h.1, h.2.1, h.2.2.drew⟩
set_option maxHeartbeats 1000000 in
theorem firstLaw_short (root : List UInt8) (hrl : root.length = 32) (info : ByteArray) (n m : UInt8) (hs : info.size ≤ 300) (w : World) (hT : HasK w) :
    Calls Tryd.prog 4 #[.agg (bs root), .string info, .int .u8 (n.toNat : Int), .int .u8 (m.toNat : Int)] w fun e w' => e = .returned (.bool true) ∧ Below w.heap.size w w' := by
  have t1 : decide (300 < (info.size : Int)) = false := by simp; omega
  obtain ⟨N, hN⟩ : ∃ N, N = n.toNat % 5 := ⟨_, rfl⟩
  obtain ⟨M, hM⟩ : ∃ M, M = m.toNat % 5 := ⟨_, rfl⟩
  have c1 := keys_any root hrl info (by omega) N (by omega)
  have c2 := keys_any root hrl info (by omega) M (by omega)
  have eN : (n.toNat : Int) % 5 = (N : Int) := by omega
  have eM : (m.toNat : Int) % 5 = (M : Int) := by omega
  have HC1 := Lib.hid c1
  have HC2 := Lib.hid c2
  have hNb : N < 5 := by omega
  have hMb : M < 5 := by omega
  clear c1 c2 hN hM
  have hu32 := Tryd.underlying25
  have hi32 : (Tryd.prog.info? 25).map (·.size) = some (root.map B8).length := by rw [List.length_map, hrl]; kernel_rfl
  have hb : Below w.heap.size w (w.alloc (.cells (bs root) 25)) := (Below.refl _ _).alloc (Nat.le_refl _) _
  have E : NEnv w root (w.alloc (.cells (bs root) 25)) := ⟨Has.fresh w 25 _, hT.below hT.lt hb, hb⟩
  clear hb
  go_enter Tryd.func4, Tryd.ntmps4
  go_wp2_with fail
  generalize w.alloc (.cells (bs root) 25) = wa at E ⊢
  refine (awake2_any _ E.2.1).mono ?_
  rintro e w1 ⟨rfl, hbq⟩
  replace E := E.step hbq
  clear hbq wa
  go_upto_region 3 with fail
  replace E := E.drew
  have b1 := n.toNat_lt
  have b2 := m.toNat_lt
  have wn : IntKind.i64.wrap (n.toNat : Int) = (n.toNat : Int) := IntWalk.i64_in _ (by omega)
  have wm : IntKind.i64.wrap (m.toNat : Int) = (m.toNat : Int) := IntWalk.i64_in _ (by omega)
  have wN : IntKind.i64.wrap (N : Int) = (N : Int) := IntWalk.i64_in _ (by omega)
  have wM : IntKind.i64.wrap (M : Int) = (M : Int) := IntWalk.i64_in _ (by omega)
  have tn : ((n.toNat : Int)).tmod 5 = (N : Int) := by rw [Int.tmod_eq_emod_of_nonneg (by omega)]; exact eN
  have tm : ((m.toNat : Int)).tmod 5 = (M : Int) := by rw [Int.tmod_eq_emod_of_nonneg (by omega)]; exact eM
  have hy1 : ∀ w', w'.rangeAt w.heap.size 0 (root.map B8) → (Instr.loadAt 25 (.pointer (some ⟨w.heap.size, 0, none⟩))).run Tryd.prog w' = .ok (.agg (bs root)) w' := fun w' h => run_loadAt_mid (P := Tryd.prog) w' w.heap.size 0 25 (root.map B8) _ h hu32 rfl hi32
  refine wp_region_noPanic ?_
  refine wp_region_held_drew (S := fun w' => w'.rangeAt w.heap.size 0 (root.map B8)) (by kernel_rfl) E.1.range (fun hS => ?_)
  refine take1 hS 0 20 (.agg (bs root)) _ rfl (by kernel_rfl) (by kernel_rfl) (by kernel_rfl) (fun _ _ _ h => h) rfl rfl (fun w' h => by have := hy1 w' h; unfold execOp; simp [this, Act.eval]) ?_
  simp only [Act.put, List.setIfInBounds_toArray, List.set_cons_zero, List.set_cons_succ]
  refine take1 hS 6 26 (.agg (bs root)) _ rfl (by kernel_rfl) (by kernel_rfl) (by kernel_rfl) (fun _ _ _ h => h) rfl rfl (fun w' h => by have := hy1 w' h; unfold execOp; simp [this, Act.eval]) ?_
  simp only [Act.put, List.setIfInBounds_toArray, List.set_cons_zero, List.set_cons_succ]
  refine take1 hS 1 21 (.string info) _ rfl (by kernel_rfl) (by kernel_rfl) (by kernel_rfl) (fun _ _ _ h => h) rfl rfl (fun w' h => by go_simp) ?_
  simp only [Act.put, List.setIfInBounds_toArray, List.set_cons_zero, List.set_cons_succ]
  refine take1 hS 2 22 (.int .u8 (n.toNat : Int)) _ rfl (by kernel_rfl) (by kernel_rfl) (by kernel_rfl) (fun _ _ _ h => h) rfl rfl (fun w' h => by go_simp) ?_
  simp only [Act.put, List.setIfInBounds_toArray, List.set_cons_zero, List.set_cons_succ]
  refine take1 hS 3 23 (.int .i64 (n.toNat : Int)) _ rfl (by kernel_rfl) (by kernel_rfl) (by kernel_rfl) (fun _ _ _ h => h) rfl rfl (fun w' h => by go_simp) ?_
  simp only [Act.put, List.setIfInBounds_toArray, List.set_cons_zero, List.set_cons_succ]
  refine take1 hS 4 24 (.int .i64 (N : Int)) _ rfl (by kernel_rfl) (by kernel_rfl) (by kernel_rfl) (fun _ _ _ h => h) rfl rfl (fun w' h => by go_simp) ?_
  simp only [Act.put, List.setIfInBounds_toArray, List.set_cons_zero, List.set_cons_succ]
  refine take1 hS 7 27 (.string info) _ rfl (by kernel_rfl) (by kernel_rfl) (by kernel_rfl) (fun _ _ _ h => h) rfl rfl (fun w' h => by go_simp) ?_
  simp only [Act.put, List.setIfInBounds_toArray, List.set_cons_zero, List.set_cons_succ]
  refine take1 hS 8 28 (.int .u8 (m.toNat : Int)) _ rfl (by kernel_rfl) (by kernel_rfl) (by kernel_rfl) (fun _ _ _ h => h) rfl rfl (fun w' h => by go_simp) ?_
  simp only [Act.put, List.setIfInBounds_toArray, List.set_cons_zero, List.set_cons_succ]
  refine take1 hS 9 29 (.int .i64 (m.toNat : Int)) _ rfl (by kernel_rfl) (by kernel_rfl) (by kernel_rfl) (fun _ _ _ h => h) rfl rfl (fun w' h => by go_simp) ?_
  simp only [Act.put, List.setIfInBounds_toArray, List.set_cons_zero, List.set_cons_succ]
  refine take1 hS 10 30 (.int .i64 (M : Int)) _ rfl (by kernel_rfl) (by kernel_rfl) (by kernel_rfl) (fun _ _ _ h => h) rfl rfl (fun w' h => by go_simp) ?_
  simp only [Act.put, List.setIfInBounds_toArray, List.set_cons_zero, List.set_cons_succ]
  refine onlyCall 5 25 11 #[.agg (bs root), .string info, .int .i64 (N : Int)] _ (by kernel_rfl) rfl rfl rfl (by go_simp) (HC1.out _ E.2.1) ?_
  rintro e wq ⟨ga, rfl, hga, hka, hbq⟩
  replace E := E.step hbq
  refine ⟨_, rfl, E.1.range, ?_⟩
  simp only [Act.put, List.setIfInBounds_toArray, List.set_cons_zero, List.set_cons_succ]
  clear hS hbq HC1
  refine onlyCall 11 31 11 #[.agg (bs root), .string info, .int .i64 (M : Int)] _ (by kernel_rfl) rfl rfl rfl (by go_simp) (HC2.out _ E.2.1) ?_
  rintro e wq2 ⟨gb, rfl, hgb, hkb, hbq⟩
  replace E := E.step hbq
  replace hka := hka.below hbq hka.lt
  refine ⟨_, rfl, E.1.range, ?_⟩
  have hS := E.1.range
  clear hbq HC2
  simp only [Act.put, List.setIfInBounds_toArray, List.set_cons_zero, List.set_cons_succ]
  refine take1 hS 12 9 (.slice (some ⟨ga, 0, none⟩) N N) _ rfl (by kernel_rfl) (by kernel_rfl) (by kernel_rfl) (fun _ _ _ h => h) rfl rfl (fun w' h => by go_simp) ?_
  simp only [Act.put, List.setIfInBounds_toArray, List.set_cons_zero, List.set_cons_succ]
  refine take1 hS 13 10 (.slice (some ⟨gb, 0, none⟩) M M) _ rfl (by kernel_rfl) (by kernel_rfl) (by kernel_rfl) (fun _ _ _ h => h) rfl rfl (fun w' h => by go_simp) ?_
  simp only [Act.put, List.setIfInBounds_toArray, List.set_cons_zero, List.set_cons_succ]
  refine wpAnyH_done (by kernel_rfl) ?_ _
  refine NoPanic.normal ?_
  go_wp2
  have hB := E.2.2
  clear hS E hy1 hi32
  go_loopw [11] (fun i wr => ∃ k : Nat, k ≤ N ∧ k ≤ M ∧ i = .int .i64 (k : Int) ∧ Has wr ga 25 (bs (flatK root info.data.toList N)) ∧ Has wr gb 25 (bs (flatK root info.data.toList M)) ∧ Below w.heap.size w wr) (fun i _ => 10 - (intOf i).toNat)
  case atStart => exact ⟨0, by omega, by omega, rfl, hka, hkb, hB⟩
  case round =>
    clear hka hkb hB
    obtain ⟨k, hkN, hkM, rfl, hka, hkb, hB⟩ := hrel
    by_cases hc : k < N ∧ k < M
    · obtain ⟨c1, c2⟩ := hc
      have ra := hka.rangeMid (k * 32) (keyN root info.data.toList (k + 1)) (by rw [Nat.mul_comm]; exact flatK_get _ _ _ _ c1)
      have rb := hkb.rangeMid (k * 32) (keyN root info.data.toList (k + 1)) (by rw [Nat.mul_comm]; exact flatK_get _ _ _ _ c2)
      have hl := keyN_length root info.data.toList k
      generalize keyN root info.data.toList (k + 1) = K at ra rb hl
      have heq := sameKey K hl
      have hiK : (Tryd.prog.info? 25).map (·.size) = some (K.map B8).length := by rw [List.length_map, hl]; kernel_rfl
      have hya : ∀ w', w'.rangeAt ga (k * 32) (K.map B8) → (Instr.loadAt 25 (.pointer (some ⟨ga, k * 32, none⟩))).run Tryd.prog w' = .ok (.agg (bs K)) w' := fun w' h => run_loadAt_mid (P := Tryd.prog) w' ga (k * 32) 25 (K.map B8) _ h hu32 rfl hiK
      have hyb : ∀ w', w'.rangeAt gb (k * 32) (K.map B8) → (Instr.loadAt 25 (.pointer (some ⟨gb, k * 32, none⟩))).run Tryd.prog w' = .ok (.agg (bs K)) w' := fun w' h => run_loadAt_mid (P := Tryd.prog) w' gb (k * 32) 25 (K.map B8) _ h hu32 rfl hiK
      clear hl hiK
      go_wp2
      refine wp_region_noPanic ?_
      refine wp_region_held_drew (S := fun w' => w'.rangeAt ga (k * 32) (K.map B8) ∧ w'.rangeAt gb (k * 32) (K.map B8)) (by kernel_rfl) ⟨ra, rb⟩ (fun hS => ?_)
      refine take1 hS 0 44 (.slice (some ⟨ga, 0, none⟩) N N) _ rfl (by kernel_rfl) (by kernel_rfl) (by kernel_rfl) (fun _ _ _ h => h) rfl rfl (fun w' h => by go_simp) ?_
      simp only [Act.put, List.setIfInBounds_toArray, List.set_cons_zero, List.set_cons_succ]
      refine take1 hS 1 45 (.int .i64 (k : Int)) _ rfl (by kernel_rfl) (by kernel_rfl) (by kernel_rfl) (fun _ _ _ h => h) rfl rfl (fun w' h => by go_simp) ?_
      simp only [Act.put, List.setIfInBounds_toArray, List.set_cons_zero, List.set_cons_succ]
      refine take1 hS 2 46 (.pointer (some ⟨ga, k * 32, none⟩)) _ rfl (by kernel_rfl) (by kernel_rfl) (by kernel_rfl) (fun _ _ _ h => h) rfl rfl (fun w' h => by go_simp) ?_
      simp only [Act.put, List.setIfInBounds_toArray, List.set_cons_zero, List.set_cons_succ]
      refine take1 hS 3 47 (.agg (bs K)) _ rfl (by kernel_rfl) (by kernel_rfl) (by kernel_rfl) (fun _ _ _ h => h) rfl rfl (fun w' h => by have := hya w' h.1; unfold execOp; simp [this, Act.eval]) ?_
      simp only [Act.put, List.setIfInBounds_toArray, List.set_cons_zero, List.set_cons_succ]
      refine take1 hS 4 48 (.slice (some ⟨gb, 0, none⟩) M M) _ rfl (by kernel_rfl) (by kernel_rfl) (by kernel_rfl) (fun _ _ _ h => h) rfl rfl (fun w' h => by go_simp) ?_
      simp only [Act.put, List.setIfInBounds_toArray, List.set_cons_zero, List.set_cons_succ]
      refine take1 hS 5 49 (.int .i64 (k : Int)) _ rfl (by kernel_rfl) (by kernel_rfl) (by kernel_rfl) (fun _ _ _ h => h) rfl rfl (fun w' h => by go_simp) ?_
      simp only [Act.put, List.setIfInBounds_toArray, List.set_cons_zero, List.set_cons_succ]
      refine take1 hS 6 50 (.pointer (some ⟨gb, k * 32, none⟩)) _ rfl (by kernel_rfl) (by kernel_rfl) (by kernel_rfl) (fun _ _ _ h => h) rfl rfl (fun w' h => by go_simp) ?_
      simp only [Act.put, List.setIfInBounds_toArray, List.set_cons_zero, List.set_cons_succ]
      refine take1 hS 7 51 (.agg (bs K)) _ rfl (by kernel_rfl) (by kernel_rfl) (by kernel_rfl) (fun _ _ _ h => h) rfl rfl (fun w' h => by have := hyb w' h.2; unfold execOp; simp [this, Act.eval]) ?_
      simp only [Act.put, List.setIfInBounds_toArray, List.set_cons_zero, List.set_cons_succ]
      refine take1 hS 8 52 (.bool false) _ rfl (by kernel_rfl) (by kernel_rfl) (by kernel_rfl) (fun _ _ _ h => h) rfl rfl (fun w' h => by go_simp) ?_
      simp only [Act.put, List.setIfInBounds_toArray, List.set_cons_zero, List.set_cons_succ]
      refine wpAnyH_done (by kernel_rfl) ?_ _
      refine NoPanic.normal ?_
      clear hya hyb ra rb heq hS
      go_wp2
      go_roundw
      case rel => exact ⟨k + 1, by omega, by omega, by go_num, hka, hkb, hB.drew⟩
      case measure => simp [intOf]; omega
    · have hc2 : k = N ∨ (k < N ∧ k = M) := by omega
      rcases hc2 with rfl | ⟨c1, rfl⟩
      · have t5 : decide ((k : Int) < (k : Int)) = false := by simp
        go_wp2
        go_ret
        exact ⟨rfl, hB⟩
      · have t5 : decide ((k : Int) < (k : Int)) = false := by simp
        go_wp2
        go_ret
        exact ⟨rfl, hB⟩
theorem firstLaw_any (root : List UInt8) (hrl : root.length = 32) (info : ByteArray) (x y : Int) (hx : (Lit.int .u8 x).wf = true) (hy : (Lit.int .u8 y).wf = true) (w : World) (hT : HasK w) :
    Calls Tryd.prog 4 #[.agg (bs root), .string info, .int .u8 x, .int .u8 y] w fun e w' => e = .returned (.bool true) ∧ Below w.heap.size w w' := by
  have hb := bounds_u8 hx
  have hb2 := bounds_u8 hy
  obtain ⟨n, rfl⟩ : ∃ n : UInt8, x = (n.toNat : Int) := ⟨UInt8.ofNat x.toNat, by rw [UInt8.toNat_ofNat', Nat.mod_eq_of_lt (by omega)]; omega⟩
  obtain ⟨m, rfl⟩ : ∃ n : UInt8, y = (n.toNat : Int) := ⟨UInt8.ofNat y.toNat, by rw [UInt8.toNat_ofNat', Nat.mod_eq_of_lt (by omega)]; omega⟩
  by_cases h : 300 < info.size
  · exact firstLaw_over root info n m h w hT
  · exact firstLaw_short root hrl info n m (by omega) w hT
end Go.Proofs.YtolipnjlbdbofaaDoor
