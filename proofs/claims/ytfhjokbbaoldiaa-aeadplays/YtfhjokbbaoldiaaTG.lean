/- cha.wordAt: walked. -/
import Derived.Test.YtfhjokbbaoldiaaTF
namespace Go.Proofs.Ytfhjokbbaoldiaa
open Go.RowKit
theorem low_or (x y i : Nat) (hy : y % 2 ^ i = 0) (hx : x < 2 ^ i) (hx' : x < 4294967296) (hy' : y < 4294967296) : bits .or .u32 (x : Int) (y : Int) = ((x + y : Nat) : Int) := by
  rw [u32_or_nat _ _ hx' hy', Nat.or_comm, nat_join i y x hy hx, Nat.add_comm]
theorem le_end (a b c d : UInt8) : bits .or .u32 (bits .or .u32 (bits .or .u32 ((d.toNat : Int) % 4294967296) ((c.toNat : Int) % 4294967296 * 256 % 4294967296))
    ((b.toNat : Int) % 4294967296 * 65536 % 4294967296)) ((a.toNat : Int) % 4294967296 * 16777216 % 4294967296) = ((wordOf a b c d).toNat : Int) := by
  have := UInt8.toNat_lt a; have := UInt8.toNat_lt b; have := UInt8.toNat_lt c; have := UInt8.toNat_lt d
  have ea : ((a.toNat : Int) % 4294967296 * 16777216 % 4294967296) = ((a.toNat * 16777216 : Nat) : Int) := by omega
  have eb : ((b.toNat : Int) % 4294967296 * 65536 % 4294967296) = ((b.toNat * 65536 : Nat) : Int) := by omega
  have ec : ((c.toNat : Int) % 4294967296 * 256 % 4294967296) = ((c.toNat * 256 : Nat) : Int) := by omega
  have ed : ((d.toNat : Int) % 4294967296) = ((d.toNat : Nat) : Int) := by omega
  rw [ea, eb, ec, ed, low_or _ _ 8 (by omega) (by omega) (by omega) (by omega), low_or _ _ 16 (by omega) (by omega) (by omega) (by omega), low_or _ _ 24 (by omega) (by omega) (by omega) (by omega), wordOf_toNat]
  omega
set_option maxHeartbeats 400000 in
theorem wordAt_any (s : ByteArray) (i : Nat) (h : i + 4 ≤ s.size) (hm : i < 1000000) (w : World) :
    Calls Try.prog 48 #[.string s, .int .i64 (i : Int)] w fun e w' => e = .returned (W32 (wordOf (bAt s (i + 3)) (bAt s (i + 2)) (bAt s (i + 1)) (bAt s i))) ∧ Below w.heap.size w w' := by
  obtain ⟨A1, hA1⟩ : ∃ A1, i + 1 = A1 := ⟨_, rfl⟩
  obtain ⟨A2, hA2⟩ : ∃ A2, i + 2 = A2 := ⟨_, rfl⟩
  obtain ⟨A3, hA3⟩ : ∃ A3, i + 3 = A3 := ⟨_, rfl⟩
  have e1 : IntKind.i64.wrap ((i : Int) + 1) = (A1 : Int) := by rw [IntWalk.i64_in _ (by omega)]; omega
  have e2 : IntKind.i64.wrap ((i : Int) + 2) = (A2 : Int) := by rw [IntWalk.i64_in _ (by omega)]; omega
  have e3 : IntKind.i64.wrap ((i : Int) + 3) = (A3 : Int) := by rw [IntWalk.i64_in _ (by omega)]; omega
  rw [hA1, hA2, hA3]
  have h0 : i < s.size := by omega
  have h1 : A1 < s.size := by omega
  have h2 : A2 < s.size := by omega
  have h3 : A3 < s.size := by omega
  have b0 : (i : Int) < (s.size : Int) := by omega
  have b1 : (A1 : Int) < (s.size : Int) := by omega
  have b2 : (A2 : Int) < (s.size : Int) := by omega
  have b3 : (A3 : Int) < (s.size : Int) := by omega
  have he := Lib.hid (le_end s[A3] s[A2] s[A1] s[i])
  clear hA1 hA2 hA3 h hm
  go_enter Try.func48, Try.ntmps48
  go_wp2
  go_quiet (fail)
  go_wp2
  go_ret
  refine ⟨ret_int (he.out.trans ?_), below_drewN (Below.refl _ _) _⟩
  rw [bAt_eq, bAt_eq, bAt_eq, bAt_eq]
end Go.Proofs.Ytfhjokbbaoldiaa
