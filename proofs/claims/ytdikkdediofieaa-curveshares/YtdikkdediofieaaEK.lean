/- curve.inverse: walked. -/
import Derived.Test.YtdikkdediofieaaEJ
namespace Go.Proofs.Ytdikkdediofieaa
open Go.RowKit
/-- k steps of the inverse -/
def invF (x : Nat) : Nat → Nat → Nat
  | 0, o => o
  | k + 1, o => invF x k (if k ≠ 2 ∧ k ≠ 4 then fmul (fmul o o) x else fmul o o)
def finv (x : Nat) : Nat := invF x 255 1
theorem invF_lt (x : Nat) : ∀ (k o : Nat), o < 57896044618658097711785492504343953926634992332820282019728792003956564819949 → invF x k o < 57896044618658097711785492504343953926634992332820282019728792003956564819949
  | 0, _, h => h
  | k + 1, o, _ => invF_lt x k _ (by split <;> exact fmul_lt _ _)
theorem finv_lt (x : Nat) : finv x < 57896044618658097711785492504343953926634992332820282019728792003956564819949 := invF_lt x 255 1 (by omega)
theorem el_one : el 1 = #[.int .u64 1, .int .u64 0, .int .u64 0, .int .u64 0] := us_word 1 (by omega)
theorem el_nought : el 0 = #[.int .u64 0, .int .u64 0, .int .u64 0, .int .u64 0] := us_word 0 (by omega)
set_option maxHeartbeats 2000000 in
theorem inverse_any (X : Nat) (hX : X < 57896044618658097711785492504343953926634992332820282019728792003956564819949) (w : World) :
    Calls Try.prog 25 #[.agg (el X)] w fun e w' => e = .returned (.agg (el (finv X))) ∧ Below w.heap.size w w' := by
  have M0 : Mem w [(w.heap.size, 39, el X), (w.heap.size + 1, 39, z4), (w.heap.size + 1 + 1, 39, el 1)] (((w.alloc (.cells (el X) 39)).alloc (.cells z4 39)).alloc (.cells (el 1) 39)) :=
    (((Mem.init w).alloc _ rfl _ _).alloc _ (by simp) _ _).alloc _ (by simp) _ _
  obtain ⟨R, hR⟩ : ∃ R, R = finv X := ⟨_, rfl⟩
  rw [← hR]
  have hr0 : invF X 255 1 = R := hR.symm
  have HR := Lib.hid hr0
  clear hR hr0
  go_enter Try.func25, Try.ntmps25
  go_upto_region 2 with fail
  rw [← el_one]
  change Code.wp _ _ _ _ (((w.alloc (.cells (el X) 39)).alloc (.cells z4 39)).alloc (.cells (el 1) 39))
  generalize ((w.alloc (.cells (el X) 39)).alloc (.cells z4 39)).alloc (.cells (el 1) 39) = w0 at M0 ⊢
  go_wp2
  go_loopw [4] (fun i wr => ∃ (k o : Nat), k ≤ 255 ∧ i = .int .i64 ((k : Int) - 1) ∧ o < 57896044618658097711785492504343953926634992332820282019728792003956564819949 ∧ invF X k o = R ∧ Mem w [(w.heap.size, 39, el X), (w.heap.size + 1, 39, z4), (w.heap.size + 1 + 1, 39, el o)] wr) (fun i _ => (intOf i + 1).toNat)
  case atStart => exact ⟨255, 1, by omega, rfl, by omega, HR.out, M0⟩
  case round =>
    clear M0 w0
    obtain ⟨k, o, hk, rfl, ho, hr, M⟩ := hrel
    cases k with
    | zero =>
      obtain rfl : o = R := hr
      have hb : decide ((0 : Int) ≤ ((0 : Nat) : Int) - 1) = false := by decide
      have r3 := M.row 2 rfl
      have r2 := M.row 1 rfl
      go_wp2_with (first
        | (refine wpList_load_row rfl 39 (.tmp 3) rfl (w.heap.size + 1 + 1) rfl 39 (el o) (0, 0) _ r3 Try.underlying39 rfl (el_info o) ?_)
        | (refine wpList_store_row rfl 39 (.tmp 2) (.tmp 21) rfl (w.heap.size + 1) (el o) rfl rfl 39 z4 r2 (el_info o) (el_z4 o) (us_one _) ?_))
      replace M := M.store 1 rfl (el o)
      simp only [List.set_cons_zero, List.set_cons_succ] at M
      exact bodyPost_ret (v := .agg (el o)) (results_cell_row rfl _ _ (w.heap.size + 1) 39 (el o) (0, 0) _ rfl (M.row 1 rfl) Try.underlying39 rfl (el_info o)) rfl ⟨rfl, M.below⟩
    | succ j =>
      have e1 : ((j + 1 : Nat) : Int) - 1 = (j : Int) := by omega
      rw [e1]
      clear e1
      have hb : decide ((0 : Int) ≤ (j : Int)) = true := by simp
      have s1 := square_el o ho
      have l1 := fmul_lt o o
      have hv : invF X j (if j ≠ 2 ∧ j ≠ 4 then fmul (fmul o o) X else fmul o o) = R := hr
      generalize fmul o o = q at s1 l1 hv
      have p1 := product_el q X l1 hX
      have l2 := fmul_lt q X
      generalize fmul q X = p at p1 l2 hv
      have S1 := Lib.hid s1
      have P1 := Lib.hid p1
      clear s1 p1 hr ho
      by_cases hj : j ≠ 2 ∧ j ≠ 4
      · rw [if_pos hj] at hv
        have HV := Lib.hid hv
        clear hv
        have t1 : ((j : Int) == 2) = false := by simp; omega
        have t2 : ((j : Int) == 4) = false := by simp; omega
        have t3 : ((j : Int) != 2) = true := by simp; omega
        have t4 : ((j : Int) != 4) = true := by simp; omega
        have r3 := M.row 2 rfl
        go_wp2_with (refine wpList_load_row rfl 39 (.tmp 3) rfl (w.heap.size + 1 + 1) rfl 39 (el o) (0, 0) _ r3 Try.underlying39 rfl (el_info o) ?_)
        go_at_call 34
        refine (S1.out _).mono ?_
        rintro e W1 ⟨rfl, hb1⟩
        clear r3 S1
        replace M := M.step hb1
        clear hb1
        have r3 := M.row 2 rfl
        go_upto_region 7 with (refine wpList_store_row rfl 39 (.tmp 3) (.tmp 11) rfl (w.heap.size + 1 + 1) (el q) rfl rfl 39 (el o) r3 (el_info q) (by unfold el; rw [us_size, us_size, elL_length, elL_length]) (us_one _) ?_)
        clear r3
        replace M := M.store 2 rfl (el q)
        simp only [List.set_cons_zero, List.set_cons_succ] at M
        generalize W1.setRow (w.heap.size + 1 + 1) (el q) = W2 at M ⊢
        clear W1
        have r3 := M.row 2 rfl
        have r1 := M.row 0 rfl
        go_wp2_with (first
          | (refine wpList_load_row rfl 39 (.tmp 3) rfl (w.heap.size + 1 + 1) rfl 39 (el q) (0, 0) _ r3 Try.underlying39 rfl (el_info q) ?_)
          | (refine wpList_load_row rfl 39 (.tmp 1) rfl w.heap.size rfl 39 (el X) (0, 0) _ r1 Try.underlying39 rfl (el_info X) ?_))
        go_at_call 24
        refine (P1.out _).mono ?_
        rintro e W3 ⟨rfl, hb1⟩
        clear r3 r1 P1
        replace M := M.step hb1
        clear hb1
        have r3 := M.row 2 rfl
        go_upto_region 4 with (refine wpList_store_row rfl 39 (.tmp 3) (.tmp 20) rfl (w.heap.size + 1 + 1) (el p) rfl rfl 39 (el q) r3 (el_info p) (by unfold el; rw [us_size, us_size, elL_length, elL_length]) (us_one _) ?_)
        clear r3
        replace M := M.store 2 rfl (el p)
        simp only [List.set_cons_zero, List.set_cons_succ] at M
        generalize W3.setRow (w.heap.size + 1 + 1) (el p) = W4 at M ⊢
        clear W3 t1 t2 t3 t4
        go_wp2
        go_roundw
        case rel => exact ⟨j, p, by omega, rfl, l2, HV.out, M⟩
        case measure => simp [intOf]
      · rw [if_neg hj] at hv
        have HV := Lib.hid hv
        clear hv P1
        have t2 : j = 2 ∨ j = 4 := by omega
        clear hj
        rcases t2 with rfl | rfl
        · rw [show (((2 : Nat) : Int)) = 2 from rfl]
          have r3 := M.row 2 rfl
          go_wp2_with (refine wpList_load_row rfl 39 (.tmp 3) rfl (w.heap.size + 1 + 1) rfl 39 (el o) (0, 0) _ r3 Try.underlying39 rfl (el_info o) ?_)
          go_at_call 34
          refine (S1.out _).mono ?_
          rintro e W1 ⟨rfl, hb1⟩
          clear r3 S1
          replace M := M.step hb1
          clear hb1
          have r3 := M.row 2 rfl
          go_upto_region 4 with (refine wpList_store_row rfl 39 (.tmp 3) (.tmp 11) rfl (w.heap.size + 1 + 1) (el q) rfl rfl 39 (el o) r3 (el_info q) (by unfold el; rw [us_size, us_size, elL_length, elL_length]) (us_one _) ?_)
          clear r3
          replace M := M.store 2 rfl (el q)
          simp only [List.set_cons_zero, List.set_cons_succ] at M
          generalize W1.setRow (w.heap.size + 1 + 1) (el q) = W2 at M ⊢
          clear W1
          go_wp2
          go_roundw
          case rel => exact ⟨2, q, by omega, rfl, l1, HV.out, M⟩
          case measure => simp [intOf]
        · rw [show (((4 : Nat) : Int)) = 4 from rfl]
          have r3 := M.row 2 rfl
          go_wp2_with (refine wpList_load_row rfl 39 (.tmp 3) rfl (w.heap.size + 1 + 1) rfl 39 (el o) (0, 0) _ r3 Try.underlying39 rfl (el_info o) ?_)
          go_at_call 34
          refine (S1.out _).mono ?_
          rintro e W1 ⟨rfl, hb1⟩
          clear r3 S1
          replace M := M.step hb1
          clear hb1
          have r3 := M.row 2 rfl
          go_upto_region 4 with (refine wpList_store_row rfl 39 (.tmp 3) (.tmp 11) rfl (w.heap.size + 1 + 1) (el q) rfl rfl 39 (el o) r3 (el_info q) (by unfold el; rw [us_size, us_size, elL_length, elL_length]) (us_one _) ?_)
          clear r3
          replace M := M.store 2 rfl (el q)
          simp only [List.set_cons_zero, List.set_cons_succ] at M
          generalize W1.setRow (w.heap.size + 1 + 1) (el q) = W2 at M ⊢
          clear W1
          go_wp2
          go_roundw
          case rel => exact ⟨4, q, by omega, rfl, l1, HV.out, M⟩
          case measure => simp [intOf]
end Go.Proofs.Ytdikkdediofieaa
