/- ether.word, readTag, content: walked. -/
import Derived.Test.YthpbhimmfmablaaVB
import Derived.Test.YthpbhimmfmablaaJ
import Derived.Deep.DeepCutAuto
import Derived.Deep.RegionWith
namespace Go.Proofs.Ythpbhimmfmablaa
open Go.RowKit
/-- the number of two bytes of a text -/
def wd (s : ByteArray) (i : Nat) : Nat := (bAt s i).toNat * 256 + (bAt s (i + 1)).toNat
theorem wd_lt (s : ByteArray) (i : Nat) : wd s i < 65536 := by
  have h1 := UInt8.toNat_lt (bAt s i)
  have h2 := UInt8.toNat_lt (bAt s (i + 1))
  unfold wd; omega
theorem numP_two (s : ByteArray) (i : Nat) : numP (s.extract i (i + 2)).data.toList 2 = wd s i := by
  have h0 : (s.extract i (i + 2)).data.toList.getD 0 0 = bAt s i := bAt_extract s i (i + 2) 0 (by omega)
  have h1 : (s.extract i (i + 2)).data.toList.getD 1 0 = bAt s (i + 1) := bAt_extract s i (i + 2) 1 (by omega)
  show (0 * 256 + ((s.extract i (i + 2)).data.toList.getD 0 0).toNat) * 256 + ((s.extract i (i + 2)).data.toList.getD 1 0).toNat = wd s i
  rw [h0, h1]
  unfold wd
  omega
theorem i64_and_small (a b : Nat) (ha : a < 9223372036854775808) (hb : b < 9223372036854775808) : bits .and .i64 (a : Int) (b : Int) = ((a &&& b : Nat) : Int) := by
  have hx : a &&& b < 2 ^ 63 := Nat.and_lt_two_pow a (by omega)
  show IntKind.i64.wrap ((BitVec.ofInt 64 (a : Int) &&& BitVec.ofInt 64 (b : Int)).toNat : Int) = _
  rw [BitVec.toNat_and, ofInt_u64 a (by omega), ofInt_u64 b (by omega), IntWalk.i64_in _ (by omega)]
theorem and_vlan (n : Nat) (h : n < 65536) : bits .and .i64 (n : Int) 4095 = ((n % 4096 : Nat) : Int) := by
  have := i64_and_small n 4095 (by omega) (by omega)
  rw [show n &&& 4095 = n % 4096 from Nat.and_two_pow_sub_one_eq_mod n 12] at this
  exact this
theorem and_mark (n : Nat) (h : n < 65536) : bits .and .i64 (n : Int) 4096 = ((n / 4096 % 2 * 4096 : Nat) : Int) := by
  have := i64_and_small n 4096 (by omega) (by omega)
  have e : n &&& 4096 = n / 4096 % 2 * 4096 := by
    apply Nat.eq_of_testBit_eq
    intro j
    rw [show (4096 : Nat) = 2 ^ 12 from rfl, Nat.testBit_and, Nat.testBit_two_pow, Nat.testBit_mul_two_pow, ← Nat.shiftRight_eq_div_pow]
    by_cases hj : j = 12
    · subst hj
      simp [Nat.testBit_eq_decide_div_mod_eq, Nat.shiftRight_eq_div_pow]
    · have h12 : ¬ 12 = j := fun e => hj e.symm
      by_cases hg : 12 ≤ j
      · obtain ⟨k, hk⟩ : ∃ k, j - 12 = k + 1 := ⟨j - 13, by omega⟩
        have : (n >>> 12 % 2).testBit (k + 1) = false := Nat.testBit_lt_two_pow (Nat.lt_of_lt_of_le (Nat.mod_lt _ (by omega)) (by have := Nat.one_le_two_pow (n := k); rw [Nat.pow_succ]; omega))
        simp [h12, hk, this]
      · simp [h12, hg]
  rw [e] at this
  exact this
end Go.Proofs.Ythpbhimmfmablaa
