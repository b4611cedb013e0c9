/- causeyref01: right, shift, Constants, First: walked. -/
import Derived.Test.YtolipnjlbdbofaaDoorRE
import Derived.Test.YtolipnjlbdbofaaDoorRM
import Derived.Test.YtolipnjlbdbofaaDoorD
import Derived.Test.YtolipnjlbdbofaaDoorE
namespace Go.Proofs.YtolipnjlbdbofaaDoor
open Go.RowKit
theorem rotN_sum (x n : Nat) (hx : x < 4294967296) (hn : n ≤ 32) : rotN x n = x / 2 ^ n + x % 2 ^ n * 2 ^ (32 - n) := by
  unfold rotN
  have e : (4294967296 : Nat) = 2 ^ n * 2 ^ (32 - n) := by rw [← Nat.pow_add, show n + (32 - n) = 32 from by omega]
  have h1 : x / 2 ^ n < 2 ^ (32 - n) := Nat.div_lt_of_lt_mul (by rw [← e]; exact hx)
  rw [e, Nat.mul_mod_mul_right, Nat.mul_comm (x % 2 ^ n), ← Nat.two_pow_add_eq_or_of_lt h1, Nat.add_comm]
theorem rotN_step (x n : Nat) (hx : x < 4294967296) (hn : n < 32) : rotN x (n + 1) = rotN x n / 2 + rotN x n % 2 * 2147483648 := by
  rw [rotN_sum x (n + 1) hx (by omega), rotN_sum x n hx (by omega), Nat.pow_succ, ← Nat.div_div_eq_div_mul, ← Nat.pow_succ, Nat.mod_pow_succ]
  have e1 : (2 : Nat) ^ (32 - n) = 2 * 2 ^ (31 - n) := by rw [← Nat.pow_succ', show (31 - n).succ = 32 - n from by omega]
  have e2 : 32 - (n + 1) = 31 - n := by omega
  have e3 : (2147483648 : Nat) = 2 ^ n * 2 ^ (31 - n) := by rw [← Nat.pow_add, show n + (31 - n) = 31 from by omega]
  rw [e1, e2, Nat.add_mul, Nat.mul_right_comm (2 ^ n), ← e3]
  generalize x / 2 ^ n = q
  have e4 : x % 2 ^ n * (2 * 2 ^ (31 - n)) = 2 * (x % 2 ^ n * 2 ^ (31 - n)) := by rw [Nat.mul_left_comm]
  rw [e4]
  generalize x % 2 ^ n * 2 ^ (31 - n) = m
  omega
theorem rotr_zero (x : UInt32) : (rotr x 0).toNat = x.toNat := by
  rw [rotr_toNat, rotN_sum _ _ (lt32 x) (by omega)]; simp [Nat.mod_one]
theorem rotr_step (x : UInt32) (n : Nat) (hn : n < 32) : (rotr x (n + 1)).toNat = (rotr x n).toNat / 2 + (rotr x n).toNat % 2 * 2147483648 := by
  rw [rotr_toNat, rotr_toNat, rotN_step _ _ (lt32 x) hn]
set_option maxHeartbeats 400000 in
theorem refShift_any (x : UInt32) (n : Nat) (hn : n < 32) (w : World) :
    Calls Tryd.prog 29 #[W32 x, .int .i64 n] w fun e w' => e = .returned (W32 (shrw x n)) ∧ w = w' := by
  go_enter Tryd.func29, Tryd.ntmps29
  go_wp2
  go_loop [0, 5] (fun y i => ∃ k : Nat, k ≤ n ∧ y = W32 (shrw x k) ∧ i = .int .i64 (k : Int)) (fun _ i => n - (intOf i).toNat)
  case atStart => exact ⟨0, by omega, by show Value.int .u32 _ = .int .u32 _; rw [shrw_toNat]; simp, rfl⟩
  case round =>
    obtain ⟨k, hk, rfl, rfl⟩ := hrel
    by_cases hkn : k < n
    · have t1 : decide ((k : Int) < (n : Int)) = true := by simp; omega
      have hs : (shrw x (k + 1)).toNat = (shrw x k).toNat / 2 := by rw [shrw_toNat, shrw_toNat, Nat.pow_succ, Nat.div_div_eq_div_mul]
      generalize shrw x k = y at hs ⊢
      have HS := Lib.hid hs
      clear hs
      go_wp2
      go_round
      case rel => exact ⟨k + 1, by omega, by have hy2 := lt32 y; show Value.int .u32 _ = .int .u32 _; rw [HS.out]; refine congrArg (Value.int .u32) ?_; omega, by go_num⟩
      case measure => simp [intOf]; omega
    · have hkn2 : k = n := by omega
      subst hkn2
      have t1 : decide ((k : Int) < (k : Int)) = false := by simp
      go_wp2
      go_ret
      exact ⟨rfl, rfl⟩
set_option maxHeartbeats 400000 in
theorem refRight_any (x : UInt32) (n : Nat) (hn : n < 32) (w : World) :
    Calls Tryd.prog 28 #[W32 x, .int .i64 n] w fun e w' => e = .returned (W32 (rotr x n)) ∧ w = w' := by
  go_enter Tryd.func28, Tryd.ntmps28
  go_wp2
  go_loop [0, 5] (fun y i => ∃ k : Nat, k ≤ n ∧ y = W32 (rotr x k) ∧ i = .int .i64 (k : Int)) (fun _ i => n - (intOf i).toNat)
  case atStart => exact ⟨0, by omega, by show Value.int .u32 _ = .int .u32 _; rw [rotr_zero], rfl⟩
  case round =>
    obtain ⟨k, hk, rfl, rfl⟩ := hrel
    by_cases hkn : k < n
    · have t1 : decide ((k : Int) < (n : Int)) = true := by simp; omega
      have hs := rotr_step x k (by omega)
      generalize rotr x k = y at hs ⊢
      have hy := lt32 y
      by_cases hp : y.toNat % 2 = 1
      · have hs2 : (rotr x (k + 1)).toNat = y.toNat / 2 + 2147483648 := by rw [hs, hp]
        have t2 : ((y.toNat : Int) % 2 == 1) = true := by simp; omega
        have HS := Lib.hid hs2
        clear hs hs2
        go_wp2
        go_round
        case rel => exact ⟨k + 1, by omega, by have hy2 := lt32 y; show Value.int .u32 _ = .int .u32 _; rw [HS.out]; refine congrArg (Value.int .u32) ?_; omega, by go_num⟩
        case measure => simp [intOf]; omega
      · have hp0 : y.toNat % 2 = 0 := by omega
        have hs2 : (rotr x (k + 1)).toNat = y.toNat / 2 := by rw [hs, hp0]; simp
        have t2 : ((y.toNat : Int) % 2 == 1) = false := by simp; omega
        have HS := Lib.hid hs2
        clear hs hs2
        go_wp2
        go_round
        case rel => exact ⟨k + 1, by omega, by have hy2 := lt32 y; show Value.int .u32 _ = .int .u32 _; rw [HS.out]; refine congrArg (Value.int .u32) ?_; omega, by go_num⟩
        case measure => simp [intOf]; omega
    · have hkn2 : k = n := by omega
      subst hkn2
      have t1 : decide ((k : Int) < (k : Int)) = false := by simp
      go_wp2
      go_ret
      exact ⟨rfl, rfl⟩
theorem kk_roots : ∀ i, i < 64 → rootW ((primesL 64).getD i 0) 3 = kk.getD i 0 ∧ (primesL 64).getD i 0 ≤ 1000 := by decide +kernel
/-- the constants, as far as they are laid -/
def kTo (k : Nat) : List UInt32 := kk.take k ++ List.replicate (64 - k) 0
theorem kTo_set : ∀ k, k < 64 → (kTo k).set k (kk.getD k 0) = kTo (k + 1) ∧ (kTo k).length = 64 := by decide +kernel
theorem kTo_done : kTo 64 = kk := by decide +kernel
theorem kTo_zero_len : (kTo 0).length = 64 := by decide +kernel
theorem kk_len : kk.length = 64 := by decide +kernel
set_option maxHeartbeats 1000000 in
theorem refConstants_any (w : World) :
    Calls Tryd.prog 16 #[] w fun e w' => e = .returned (.agg (ws kk)) ∧ Below w.heap.size w w' := by
  have hG : Has ((w.alloc (.cells (ws (kTo 0)) 39)).alloc (.cells (ws (kTo 0)) 39)) w.heap.size 39 (ws (kTo 0)) ∧ Has ((w.alloc (.cells (ws (kTo 0)) 39)).alloc (.cells (ws (kTo 0)) 39)) (w.heap.size + 1) 39 (ws (kTo 0)) ∧ Below w.heap.size w ((w.alloc (.cells (ws (kTo 0)) 39)).alloc (.cells (ws (kTo 0)) 39)) := ⟨(Has.fresh w 39 _).alloc _, heap_alloc2_new w _ _, ((Below.refl _ _).alloc (Nat.le_refl _) _).alloc (by simp) _⟩
  have hpl := primesL_length 64 (by omega)
  have HPL := Lib.hid hpl
  clear hpl
  go_enter Tryd.func16, Tryd.ntmps16
  go_wp2_with fail
  change Calls _ _ _ ((w.alloc (.cells (ws (kTo 0)) 39)).alloc (.cells (ws (kTo 0)) 39)) _
  generalize (w.alloc (.cells (ws (kTo 0)) 39)).alloc (.cells (ws (kTo 0)) 39) = wa at hG ⊢
  refine (refPrimes_any 64 (by omega) _).mono ?_
  rintro e wp ⟨a, cap, rfl, hil, hbp⟩
  have hG2 : Has wp w.heap.size 39 (ws (kTo 0)) ∧ Has wp (w.heap.size + 1) 39 (ws (kTo 0)) ∧ Below w.heap.size w wp := ⟨hG.1.below hbp hG.1.lt, hG.2.1.below hbp hG.2.1.lt, hG.2.2.trans (hbp.mono hG.2.2.size)⟩
  obtain ⟨ga, hgl, rfl, hc⟩ := hil (by intro h; have := HPL.out; rw [h] at this; simp at this)
  clear hG hbp wa
  have HC := Lib.hid hc
  have hg1 : w.heap.size + 1 < wp.heap.size := hG2.2.1.lt
  clear hc
  go_wp2
  go_loopw [3] (fun i wr => ∃ k : Nat, k ≤ 64 ∧ i = .int .i64 k ∧ Has wr w.heap.size 39 (ws (kTo 0)) ∧ Has wr (w.heap.size + 1) 39 (ws (kTo k)) ∧ Below w.heap.size w wr ∧ (∀ i, i < 64 → wr.cell? ⟨ga, i, none⟩ = some (.int .i64 (((primesL 64).getD i 0 : Nat) : Int)))) (fun i _ => 64 - (intOf i).toNat)
  case atStart => exact ⟨0, by omega, rfl, hG2.1, hG2.2.1, hG2.2.2, fun i hi => HC.out i (by rw [HPL.out]; exact hi)⟩
  case round =>
    clear hG2 HC
    obtain ⟨k, hk, rfl, i1, i2, hbr, hc⟩ := hrel
    by_cases hk64 : k < 64
    · obtain ⟨hroot, hprb⟩ := kk_roots k hk64
      obtain ⟨hset, hlen⟩ := kTo_set k hk64
      have HSET := Lib.hid hset
      have HLEN := Lib.hid hlen
      have HCC := Lib.hid hc
      have c1 := hc k hk64
      have hgw : ga < wr.heap.size := block_lt_of_cell (hc 0 (by omega))
      have hne : ga ≠ w.heap.size + 1 := by
        intro h
        have h2 := i2.word k (by rw [hlen]; exact hk64)
        rw [← h, c1] at h2
        simp at h2
      clear hc hset hlen
      generalize kk.getD k 0 = x at hroot HSET
      generalize (primesL 64).getD k 0 = pr at c1 hroot hprb
      have hrt := refRoot3 pr hprb wr
      rw [hroot] at hrt
      have HRT := Lib.hid hrt
      clear hrt hroot
      have t1 : decide ((k : Int) < 64) = true := by simp; omega
      go_wp2_with (go_at_call 27; refine HRT.out.mono ?_; rintro e w2 ⟨rfl, hb2⟩; have j1 := i1.below hb2 i1.lt; have j2 := i2.below hb2 i2.lt; have c3 := j2.word k (by rw [HLEN.out]; exact hk64); have q3 := j2.frozen k)
      go_roundw
      case rel =>
        refine ⟨k + 1, by omega, by go_num, j1.other (by simp) _, by rw [← HSET.out]; exact j2.setW k x, (hbr.trans (hb2.mono hbr.size)).setCell (by simp) _, fun i hi => ?_⟩
        have e1 := (hb2.cell (p := ⟨ga, i, none⟩) hgw).trans (HCC.out i hi)
        rw [← e1]
        unfold World.cell?
        rw [heap_setCell_other _ _ _ _ hne]
      case measure => simp [intOf]; omega
    · have hk2 : k = 64 := by omega
      subst hk2
      rw [kTo_done] at i2
      clear hc
      rw [show ((64 : Nat) : Int) = 64 from rfl]
      have hz : (ws (kTo 0)).size = (ws kk).size := by rw [ws_size, ws_size, kTo_zero_len, kk_len]
      go_wp2_with (first
        | (refine wpList_load_row rfl 39 (.tmp 1) rfl (w.heap.size + 1) rfl 39 (ws kk) (0, 0) _ i2 Tryd.underlying39 rfl (ws64_info kk kk_len) ?_)
        | (refine wpList_store_row rfl 39 (.tmp 0) (.tmp 16) rfl w.heap.size (ws kk) rfl rfl 39 (ws (kTo 0)) i1 (ws64_info kk kk_len) hz (ws_one kk) ?_))
      refine bodyPost_ret (v := .agg (ws kk)) (results_cell_row rfl _ _ w.heap.size 39 (ws kk) (0, 0) _ rfl (i1.setRow _) Tryd.underlying39 rfl (ws64_info kk kk_len)) rfl ⟨rfl, below_setRow hbr (Nat.le_refl _) _⟩
theorem firstTo_zero_len : (firstTo 0).length = 8 := by decide +kernel
theorem first_len : first8.l.length = 8 := by decide +kernel
set_option maxHeartbeats 1000000 in
theorem refFirst_any (w : World) :
    Calls Tryd.prog 17 #[] w fun e w' => e = .returned (.agg (c8 first8)) ∧ Below w.heap.size w w' := by
  have hG : Has ((w.alloc (.cells (ws (firstTo 0)) 41)).alloc (.cells (ws (firstTo 0)) 41)) w.heap.size 41 (ws (firstTo 0)) ∧ Has ((w.alloc (.cells (ws (firstTo 0)) 41)).alloc (.cells (ws (firstTo 0)) 41)) (w.heap.size + 1) 41 (ws (firstTo 0)) ∧ Below w.heap.size w ((w.alloc (.cells (ws (firstTo 0)) 41)).alloc (.cells (ws (firstTo 0)) 41)) := ⟨(Has.fresh w 41 _).alloc _, heap_alloc2_new w _ _, ((Below.refl _ _).alloc (Nat.le_refl _) _).alloc (by simp) _⟩
  have hpl := primesL_length 8 (by omega)
  have HPL := Lib.hid hpl
  clear hpl
  go_enter Tryd.func17, Tryd.ntmps17
  go_wp2_with fail
  change Calls _ _ _ ((w.alloc (.cells (ws (firstTo 0)) 41)).alloc (.cells (ws (firstTo 0)) 41)) _
  generalize (w.alloc (.cells (ws (firstTo 0)) 41)).alloc (.cells (ws (firstTo 0)) 41) = wa at hG ⊢
  refine (refPrimes_any 8 (by omega) _).mono ?_
  rintro e wp ⟨a, cap, rfl, hil, hbp⟩
  have hG2 : Has wp w.heap.size 41 (ws (firstTo 0)) ∧ Has wp (w.heap.size + 1) 41 (ws (firstTo 0)) ∧ Below w.heap.size w wp := ⟨hG.1.below hbp hG.1.lt, hG.2.1.below hbp hG.2.1.lt, hG.2.2.trans (hbp.mono hG.2.2.size)⟩
  obtain ⟨ga, hgl, rfl, hc⟩ := hil (by intro h; have := HPL.out; rw [h] at this; simp at this)
  clear hG hbp wa
  have HC := Lib.hid hc
  have hg1 : w.heap.size + 1 < wp.heap.size := hG2.2.1.lt
  clear hc
  go_wp2
  go_loopw [3] (fun i wr => ∃ k : Nat, k ≤ 8 ∧ i = .int .i64 k ∧ Has wr w.heap.size 41 (ws (firstTo 0)) ∧ Has wr (w.heap.size + 1) 41 (ws (firstTo k)) ∧ Below w.heap.size w wr ∧ (∀ i, i < 8 → wr.cell? ⟨ga, i, none⟩ = some (.int .i64 (((primesL 8).getD i 0 : Nat) : Int)))) (fun i _ => 8 - (intOf i).toNat)
  case atStart => exact ⟨0, by omega, rfl, hG2.1, hG2.2.1, hG2.2.2, fun i hi => HC.out i (by rw [HPL.out]; exact hi)⟩
  case round =>
    clear hG2 HC
    obtain ⟨k, hk, rfl, i1, i2, hbr, hc⟩ := hrel
    by_cases hk64 : k < 8
    · obtain ⟨hroot, hprb⟩ := first_roots k hk64
      obtain ⟨hset, hlen⟩ := firstTo_set k hk64
      have HSET := Lib.hid hset
      have HLEN := Lib.hid hlen
      have HCC := Lib.hid hc
      have c1 := hc k hk64
      have hgw : ga < wr.heap.size := block_lt_of_cell (hc 0 (by omega))
      have hne : ga ≠ w.heap.size + 1 := by
        intro h
        have h2 := i2.word k (by rw [hlen]; exact hk64)
        rw [← h, c1] at h2
        simp at h2
      clear hc hset hlen
      generalize first8.l.getD k 0 = x at hroot HSET
      generalize (primesL 8).getD k 0 = pr at c1 hroot hprb
      have hrt := refRoot2 pr hprb wr
      rw [hroot] at hrt
      have HRT := Lib.hid hrt
      clear hrt hroot
      have t1 : decide ((k : Int) < 8) = true := by simp; omega
      go_wp2_with (go_at_call 27; refine HRT.out.mono ?_; rintro e w2 ⟨rfl, hb2⟩; have j1 := i1.below hb2 i1.lt; have j2 := i2.below hb2 i2.lt; have c3 := j2.word k (by rw [HLEN.out]; exact hk64); have q3 := j2.frozen k)
      go_roundw
      case rel =>
        refine ⟨k + 1, by omega, by go_num, j1.other (by simp) _, by rw [← HSET.out]; exact j2.setW k x, (hbr.trans (hb2.mono hbr.size)).setCell (by simp) _, fun i hi => ?_⟩
        have e1 := (hb2.cell (p := ⟨ga, i, none⟩) hgw).trans (HCC.out i hi)
        rw [← e1]
        unfold World.cell?
        rw [heap_setCell_other _ _ _ _ hne]
      case measure => simp [intOf]; omega
    · have hk2 : k = 8 := by omega
      subst hk2
      rw [firstTo_done] at i2
      clear hc
      rw [show ((8 : Nat) : Int) = 8 from rfl]
      have hz : (ws (firstTo 0)).size = (c8 first8).size := by unfold c8; rw [ws_size, ws_size, firstTo_zero_len, first_len]
      go_wp2_with (first
        | (refine wpList_load_row rfl 41 (.tmp 1) rfl (w.heap.size + 1) rfl 41 (c8 first8) (0, 0) _ i2 Tryd.underlying41 rfl (c8_info first8) ?_)
        | (refine wpList_store_row rfl 41 (.tmp 0) (.tmp 16) rfl w.heap.size (c8 first8) rfl rfl 41 (ws (firstTo 0)) i1 (c8_info first8) hz (c8_one first8) ?_))
      refine bodyPost_ret (v := .agg (c8 first8)) (results_cell_row rfl _ _ w.heap.size 41 (c8 first8) (0, 0) _ rfl (i1.setRow _) Tryd.underlying41 rfl (c8_info first8)) rfl ⟨rfl, below_setRow hbr (Nat.le_refl _) _⟩
end Go.Proofs.YtolipnjlbdbofaaDoor
