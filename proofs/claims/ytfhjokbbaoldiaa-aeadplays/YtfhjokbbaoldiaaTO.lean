/- causeyref03.left and causeyref03.Quarter: walked. -/
import Derived.Test.YtfhjokbbaoldiaaTK
namespace Go.Proofs.Ytfhjokbbaoldiaa
open Go.RowKit
theorem left_next (y : UInt32) : 2 * (y.toNat : Int) % 4294967296 + (y.toNat : Int) / 2147483648 = ((2 * y + shrw y 31).toNat : Int) := by
  have := lt32 y
  have e2 : (2 : UInt32).toNat = 2 := rfl
  rw [UInt32.toNat_add, UInt32.toNat_mul, shrw_toNat, e2]
  omega
set_option maxRecDepth 20000 in
set_option maxHeartbeats 400000 in
theorem left_any (x : UInt32) (n : Int) (h0 : 0 < n) (h1 : n < 32) (w : World) :
    Calls Try.prog 54 #[W32 x, .int .i64 n] w fun e w' => e = .returned (W32 (rotl x n.toNat)) ∧ w = w' := by
  obtain ⟨k, rfl⟩ := Int.eq_ofNat_of_zero_le (Int.le_of_lt h0)
  rw [Int.toNat_natCast]
  have hfin := leftN_rotl x k (by omega)
  have HF := Lib.hid hfin
  clear hfin
  go_enter Try.func54, Try.ntmps54
  go_wp2
  go_loop [0, 5] (fun v i => ∃ j : Nat, j ≤ k ∧ v = W32 (leftN x j) ∧ i = .int .i64 (j : Int)) (fun _ i => k - (intOf i).toNat)
  case atStart => exact ⟨0, by omega, rfl, rfl⟩
  case round =>
    obtain ⟨j, hj, rfl, rfl⟩ := hrel
    by_cases hlt : j < k
    · have t1 : decide ((j : Int) < (k : Int)) = true := by simp; omega
      have hn : leftN x (j + 1) = 2 * leftN x j + shrw (leftN x j) 31 := rfl
      generalize leftN x j = y at hn ⊢
      have hy := lt32 y
      have hq : ((y.toNat : Int)).tdiv 2147483648 = (y.toNat : Int) / 2147483648 := Int.tdiv_eq_ediv_of_nonneg (by omega)
      have HN := Lib.hid hn
      have HX := Lib.hid (left_next y)
      clear hn
      go_wp2
      refine ⟨⟨j + 1, by omega, ?_, by go_num⟩, by simp [intOf]; omega⟩
      rw [HX.out, HN.out]
    · have hj2 : j = k := by omega
      subst hj2
      have t1 : decide ((j : Int) < (j : Int)) = false := by simp
      go_wp2
      go_ret
      exact ⟨by rw [← HF.out]; rfl, rfl⟩
end Go.Proofs.Ytfhjokbbaoldiaa
