/- causeylaw03.awake, causeylaw03.turn, and the walk of law ChaQuarters. -/
import Derived.Test.YtmlipnhmdgmhnaaTB
namespace Go.Proofs.Ytmlipnhmdgmhnaa
open Go.RowKit
set_option maxHeartbeats 400000 in
theorem awake3_any (w : World) : Calls Try.prog 8 #[] w fun e w' => e = .returned (.bool true) ∧ w = w' := by
  have hc : Calls Try.prog 10 #[.int .u32 286331153, .int .u32 16909060, .int .u32 2609737539, .int .u32 19088743] w fun e w' => e = .returned (.tuple #[.int .u32 3928658676, .int .u32 3407673550, .int .u32 1166100270, .int .u32 1484899515]) ∧ w = w' := by
    have h := quarter_any 0x11111111 0x01020304 0x9b8d6f43 0x01234567 w
    obtain ⟨e0, e1, e2, e3⟩ := qr_awake
    rw [e0, e1, e2, e3] at h
    exact h
  have HC := Lib.hid hc
  clear hc
  go_enter Try.func8, Try.ntmps8
  go_wp2_with fail
  refine HC.out.mono ?_
  rintro e w' ⟨rfl, rfl⟩
  go_wp2
  go_ret
  exact ⟨rfl, rfl⟩
theorem turn_end (x : UInt32) (n : Nat) (_h : n ≤ 32) : bits .or .u32 ((x.toNat : Int) / 2 ^ n) ((x.toNat : Int) * 2 ^ (32 - n) % 4294967296) = ((rotr x n).toNat : Int) := by
  have e1 : ((x.toNat : Int) * 2 ^ (32 - n) % 4294967296) = ((x.toNat * 2 ^ (32 - n) % 4294967296 : Nat) : Int) := by simp
  have e2 : ((x.toNat : Int) / 2 ^ n) = ((x.toNat / 2 ^ n : Nat) : Int) := by simp
  rw [e1, e2, u32_or_nat _ _ (Nat.lt_of_le_of_lt (Nat.div_le_self _ _) (lt32 x)) (Nat.mod_lt _ (by decide)), rotr_toNat]
  unfold rotN
  rw [Nat.or_comm]
set_option maxHeartbeats 400000 in
theorem turn_any (x : UInt32) (n : Int) (h0 : 0 < n) (h1 : n < 32) (w : World) :
    Calls Try.prog 11 #[W32 x, .int .i64 n] w fun e w' => e = .returned (W32 (rotr x n.toNat)) ∧ Below w.heap.size w w' := by
  obtain ⟨k, rfl⟩ := Int.eq_ofNat_of_zero_le (Int.le_of_lt h0)
  rw [Int.toNat_natCast]
  have hk : k < 32 := by omega
  have he := Lib.hid (turn_end x k (by omega))
  go_enter Try.func11, Try.ntmps11
  go_wp2
  go_quiet (fail)
  go_wp2
  go_ret
  exact ⟨ret_int he.out, below_drewN (Below.refl _ _) _⟩
theorem sub32 (a b : UInt32) : ((a.toNat : Int) - (b.toNat : Int)) % 4294967296 = ((a - b).toNat : Int) := by
  have := lt32 a; have := lt32 b
  rw [UInt32.toNat_sub]; omega
end Go.Proofs.Ytmlipnhmdgmhnaa
