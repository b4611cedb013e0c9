/- oct.Number: walked. -/
import Derived.Test.YthpbhimmfmablaaBU
namespace Go.Proofs.Ythpbhimmfmablaa
open Go.RowKit
/-- the number of the first k bytes of a text -/
def numP (l : List UInt8) : Nat → Nat
  | 0 => 0
  | k + 1 => numP l k * 256 + (l.getD k 0).toNat
theorem numP_lt (l : List UInt8) (k : Nat) : numP l k < 256 ^ k := by
  induction k with
  | zero => exact Nat.one_pos
  | succ k ih =>
    have := UInt8.toNat_lt (l.getD k 0)
    show numP l k * 256 + (l.getD k 0).toNat < 256 ^ (k + 1)
    rw [Nat.pow_succ]
    generalize 256 ^ k = p at ih ⊢
    omega
theorem i64_or_small (a b : Nat) (ha : a < 9223372036854775808) (hb : b < 9223372036854775808) : bits .or .i64 (a : Int) (b : Int) = ((a ||| b : Nat) : Int) := by
  have hx : a ||| b < 2 ^ 63 := Nat.or_lt_two_pow (by omega) (by omega)
  show IntKind.i64.wrap ((BitVec.ofInt 64 (a : Int) ||| BitVec.ofInt 64 (b : Int)).toNat : Int) = _
  rw [BitVec.toNat_or, ofInt_u64 a (by omega), ofInt_u64 b (by omega), IntWalk.i64_in _ (by omega)]
theorem or_byte (n b : Nat) (hn : n * 256 < 9223372036854775808) (hb : b < 256) : bits .or .i64 ((n * 256 : Nat) : Int) (b : Int) = ((n * 256 + b : Nat) : Int) := by
  rw [i64_or_small _ _ hn (by omega), nat_join 8 (n * 256) b (by omega) hb]
set_option maxRecDepth 20000 in
set_option maxHeartbeats 1000000 in
theorem numberIn_any (s : ByteArray) (hs : s.size ≤ 7) (w : World) :
    Calls Try.prog 39 #[.string s] w fun e w' => e = .returned (.tuple #[.int .i64 (numP s.data.toList s.size : Int), .int .i64 0]) ∧ w' = w := by
  have t0 : decide ((7 : Int) < (s.size : Int)) = false := by simp; omega
  have hlt := numP_lt s.data.toList
  have hst : ∀ k, numP s.data.toList (k + 1) = numP s.data.toList k * 256 + (bAt s k).toNat := fun k => rfl
  have hz : numP s.data.toList 0 = 0 := rfl
  generalize numP s.data.toList = P at hlt hst hz ⊢
  have HL := Lib.hid hlt
  have HS := Lib.hid hst
  have HZ := Lib.hid hz
  clear hlt hst hz
  go_enter Try.func39, Try.ntmps39
  go_wp2
  go_loop [4, 11] (fun c i => ∃ k : Nat, k ≤ s.size ∧ c = .int .i64 (P k : Int) ∧ i = .int .i64 (k : Int)) (fun _ i => s.size - (intOf i).toNat)
  case atStart => exact ⟨0, by omega, by rw [HZ.out]; rfl, rfl⟩
  case round =>
    obtain ⟨k, hk, rfl, rfl⟩ := hrel
    have hP := HL.out k
    have hp6 : 256 ^ k ≤ 256 ^ 7 := Nat.pow_le_pow_right (by omega) (by omega)
    by_cases hlt : k < s.size
    · have t1 : decide ((k : Int) < (s.size : Int)) = true := by simp; omega
      have h1 : (k : Int) < (s.size : Int) := by omega
      have hp5 : 256 ^ k ≤ 256 ^ 6 := Nat.pow_le_pow_right (by omega) (by omega)
      have hs := HS.out k
      have hb := UInt8.toNat_lt (bAt s k)
      have hor := or_byte (P k) (bAt s k).toNat (by omega) (by omega)
      clear hp6
      generalize 256 ^ k = q at hP hp5
      go_wp2
      refine ⟨⟨k + 1, by omega, ?_, by go_num⟩, by simp [intOf]; omega⟩
      have hx : wrap64 (((bAt s k).toNat : Nat) : Int) = ((bAt s k).toNat : Int) := by unfold wrap64; omega
      rw [bAt_eq s k hlt, hx, hs, ← hor]
      congr 1
    · have hk2 : k = s.size := by omega
      subst hk2
      clear hP hp6 hlt
      go_wp2
      go_ret2
      exact ⟨rfl, rfl⟩
end Go.Proofs.Ythpbhimmfmablaa
