/- Roots as a plain search bit by bit. No program is run here. -/
import Derived.Test.YtolipnjlbdbofaaDoorA2
namespace Go.Proofs.YtolipnjlbdbofaaDoor
open Go.RowKit
/-- the greatest number of 37 bits that a test lets by, from the highest bit on: behind k bits -/
def rt (P : Nat → Bool) : Nat → Nat
  | 0 => 0
  | k + 1 => if P (rt P k + 2 ^ (36 - k)) then rt P k + 2 ^ (36 - k) else rt P k
theorem rt_inv (P : Nat → Bool) (k : Nat) (hk : k ≤ 37) : ∃ m, rt P k = m * 2 ^ (37 - k) ∧ m < 2 ^ k := by
  induction k with
  | zero => exact ⟨0, by simp [rt], by simp⟩
  | succ k ih =>
    obtain ⟨m, h1, h2⟩ := ih (by omega)
    have e : 2 ^ (37 - k) = 2 * 2 ^ (37 - (k + 1)) := by rw [show 37 - k = (37 - (k + 1)) + 1 from by omega, Nat.pow_succ, Nat.mul_comm]
    have e2 : 2 ^ (36 - k) = 2 ^ (37 - (k + 1)) := by congr 1; omega
    have e3 : (2 : Nat) ^ (k + 1) = 2 * 2 ^ k := by rw [Nat.pow_succ, Nat.mul_comm]
    unfold rt
    split
    · refine ⟨2 * m + 1, ?_, by omega⟩
      rw [h1, e, e2, Nat.add_mul, Nat.one_mul, ← Nat.mul_assoc, Nat.mul_comm m 2]
    · refine ⟨2 * m, ?_, by omega⟩
      rw [h1, e, ← Nat.mul_assoc, Nat.mul_comm m 2]
theorem rt_lt (P : Nat → Bool) (k : Nat) (hk : k ≤ 36) : rt P k + 2 ^ (36 - k) < 137438953472 := by
  obtain ⟨m, h1, h2⟩ := rt_inv P k (by omega)
  have e : 2 ^ (37 - k) = 2 * 2 ^ (36 - k) := by rw [show 37 - k = (36 - k) + 1 from by omega, Nat.pow_succ, Nat.mul_comm]
  have e4 : 2 ^ k * 2 ^ (36 - k) = 2 ^ 36 := by rw [← Nat.pow_add]; congr 1; omega
  have h3 : (m + 1) * 2 ^ (36 - k) ≤ 2 ^ k * 2 ^ (36 - k) := Nat.mul_le_mul_right _ (by omega)
  have hp : 0 < 2 ^ (36 - k) := Nat.two_pow_pos _
  rw [e4, Nat.add_mul, Nat.one_mul] at h3
  have e5 : m * (2 * 2 ^ (36 - k)) = 2 * (m * 2 ^ (36 - k)) := by rw [← Nat.mul_assoc, Nat.mul_comm m 2, Nat.mul_assoc]
  rw [h1, e, e5]
  have : (2 : Nat) ^ 36 = 68719476736 := rfl
  omega
/-- the 32 bits behind the point of a root -/
def rootW (n p : Nat) : UInt32 := UInt32.ofNat (rt (fun y => decide (y ^ p ≤ n * 2 ^ (32 * p))) 37)
theorem u32_of (x : Nat) : (x : Int) % 4294967296 = ((UInt32.ofNat x).toNat : Int) := by
  rw [UInt32.toNat_ofNat']; simp
end Go.Proofs.YtolipnjlbdbofaaDoor
