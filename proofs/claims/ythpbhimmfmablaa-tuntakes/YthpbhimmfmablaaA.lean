/- Plain mathematics of SHA-256's words: how the walk's numbers fold into words of 32 bits. No program is run here. -/
import Derived.WalkKit
namespace Go.Proofs.Ythpbhimmfmablaa
open Go.RowKit

/-- a word as the program's value -/
abbrev W32 (x : UInt32) : Value := .int .u32 (x.toNat : Int)

theorem lt32 (x : UInt32) : x.toNat < 4294967296 := UInt32.toNat_lt x

theorem xor32 (a b : UInt32) : bits .xor .u32 (a.toNat : Int) (b.toNat : Int) = ((a ^^^ b).toNat : Int) := by
  rw [u32_xor_nat _ _ (lt32 a) (lt32 b), UInt32.toNat_xor]
theorem and32 (a b : UInt32) : bits .and .u32 (a.toNat : Int) (b.toNat : Int) = ((a &&& b).toNat : Int) := by
  rw [u32_and_nat _ _ (lt32 a) (lt32 b), UInt32.toNat_and]
theorem or32 (a b : UInt32) : bits .or .u32 (a.toNat : Int) (b.toNat : Int) = ((a ||| b).toNat : Int) := by
  rw [u32_or_nat _ _ (lt32 a) (lt32 b), UInt32.toNat_or]
theorem add32 (a b : UInt32) : ((a.toNat : Int) + (b.toNat : Int)) % 4294967296 = ((a + b).toNat : Int) := by
  rw [UInt32.toNat_add]; omega
theorem addw32 (a b : UInt32) : IntKind.u32.wrap ((a.toNat : Int) + (b.toNat : Int)) = ((a + b).toNat : Int) := by
  rw [IntKind.wrap_u32', add32]
theorem sum4 (a b c d : UInt32) : ((a.toNat : Int) + (b.toNat : Int) + (c.toNat : Int) + (d.toNat : Int)) % 4294967296 = ((a + b + c + d).toNat : Int) := by
  rw [UInt32.toNat_add, UInt32.toNat_add, UInt32.toNat_add]; omega
theorem not32 (a : UInt32) : bits .xor .u32 4294967295 (a.toNat : Int) = ((~~~a).toNat : Int) := by
  have h := xor32 0xffffffff a
  have e : (((0xffffffff : UInt32).toNat : Nat) : Int) = 4294967295 := by decide
  rw [e] at h
  rw [h]
  congr 2

theorem notif32 (a : UInt32) : bits .xor .u32 (if IntKind.u32.signed = true then -1 else IntKind.u32.max) (a.toNat : Int) = ((~~~a).toNat : Int) := by
  have h : (if IntKind.u32.signed = true then (-1 : Int) else IntKind.u32.max) = 4294967295 := by decide
  rw [h, not32]
theorem sum5 (a b c d e : UInt32) : (((a.toNat : Int) + (b.toNat : Int) + (c.toNat : Int) + (d.toNat : Int)) % 4294967296 + (e.toNat : Int)) % 4294967296 = ((a + b + c + d + e).toNat : Int) := by
  rw [sum4, add32]
def rotN (x n : Nat) : Nat := (x * 2 ^ (32 - n)) % 4294967296 ||| x / 2 ^ n
theorem rotN_lt (x n : Nat) (hx : x < 4294967296) : rotN x n < 4294967296 := by
  unfold rotN
  exact Nat.or_lt_two_pow (n := 32) (Nat.mod_lt _ (by decide)) (Nat.lt_of_le_of_lt (Nat.div_le_self _ _) hx)
/-- a word turned right -/
def rotr (x : UInt32) (n : Nat) : UInt32 := UInt32.ofNat (rotN x.toNat n)
theorem rotr_toNat (x : UInt32) (n : Nat) : (rotr x n).toNat = rotN x.toNat n := by
  unfold rotr; rw [UInt32.toNat_ofNat']; exact Nat.mod_eq_of_lt (rotN_lt _ _ (lt32 x))
/-- a word shifted right -/
def shrw (x : UInt32) (n : Nat) : UInt32 := UInt32.ofNat (x.toNat / 2 ^ n)
theorem shrw_toNat (x : UInt32) (n : Nat) : (shrw x n).toNat = x.toNat / 2 ^ n := by
  unfold shrw; rw [UInt32.toNat_ofNat']; exact Nat.mod_eq_of_lt (Nat.lt_of_le_of_lt (Nat.div_le_self _ _) (lt32 x))
theorem shr3 (x : UInt32) : (x.toNat : Int) / 8 = ((shrw x 3).toNat : Int) := by rw [shrw_toNat]; rfl
theorem shr10 (x : UInt32) : (x.toNat : Int) / 1024 = ((shrw x 10).toNat : Int) := by rw [shrw_toNat]; rfl
theorem rot_end (x : UInt32) (n m : Nat) (h : n + m = 32) : bits .or .u32 ((x.toNat : Int) * 2 ^ m % 4294967296) ((x.toNat : Int) / 2 ^ (32 - m)) = ((rotr x n).toNat : Int) := by
  have hm : m = 32 - n := by omega
  have e1 : ((x.toNat : Int) * 2 ^ m % 4294967296) = ((x.toNat * 2 ^ m % 4294967296 : Nat) : Int) := by simp
  have e2 : ((x.toNat : Int) / 2 ^ (32 - m)) = ((x.toNat / 2 ^ (32 - m) : Nat) : Int) := by simp
  rw [e1, e2, u32_or_nat _ _ (Nat.mod_lt _ (by decide)) (Nat.lt_of_le_of_lt (Nat.div_le_self _ _) (lt32 x)), rotr_toNat]
  unfold rotN
  rw [hm, show 32 - (32 - n) = n from by omega]

theorem ret_int {k : IntKind} {a b : Int} (h : a = b) : Ending.returned (.int k a) = .returned (.int k b) := by rw [h]
/-- the byte at a place of a text -/
def bAt (s : ByteArray) (i : Nat) : UInt8 := s.data.toList.getD i 0
theorem bAt_eq (s : ByteArray) (i : Nat) (h : i < s.size) : s[i] = bAt s i := by
  unfold bAt
  have h' : i < s.data.toList.length := by simpa using h
  rw [List.getD_eq_getElem?_getD, List.getElem?_eq_getElem h']
  rfl

/-- a word of four bytes, the highest first -/
def wordOf (a b c d : UInt8) : UInt32 := UInt32.ofNat (((a.toNat * 256 + b.toNat) * 256 + c.toNat) * 256 + d.toNat)
theorem wordOf_toNat (a b c d : UInt8) : (wordOf a b c d).toNat = ((a.toNat * 256 + b.toNat) * 256 + c.toNat) * 256 + d.toNat := by
  unfold wordOf; rw [UInt32.toNat_ofNat']
  have := UInt8.toNat_lt a; have := UInt8.toNat_lt b; have := UInt8.toNat_lt c; have := UInt8.toNat_lt d
  exact Nat.mod_eq_of_lt (by omega)
theorem join_or (x y i : Nat) (hx : x % 2 ^ i = 0) (hy : y < 2 ^ i) (hx' : x < 4294967296) (hy' : y < 4294967296) : bits .or .u32 (x : Int) (y : Int) = ((x + y : Nat) : Int) := by
  rw [u32_or_nat _ _ hx' hy', nat_join i x y hx hy]
theorem word_end (a b c d : UInt8) : bits .or .u32 (bits .or .u32 (bits .or .u32 ((a.toNat : Int) % 4294967296 * 16777216 % 4294967296) ((b.toNat : Int) % 4294967296 * 65536 % 4294967296))
    ((c.toNat : Int) % 4294967296 * 256 % 4294967296)) ((d.toNat : Int) % 4294967296) = ((wordOf a b c d).toNat : Int) := by
  have := UInt8.toNat_lt a; have := UInt8.toNat_lt b; have := UInt8.toNat_lt c; have := UInt8.toNat_lt d
  have ea : ((a.toNat : Int) % 4294967296 * 16777216 % 4294967296) = ((a.toNat * 16777216 : Nat) : Int) := by omega
  have eb : ((b.toNat : Int) % 4294967296 * 65536 % 4294967296) = ((b.toNat * 65536 : Nat) : Int) := by omega
  have ec : ((c.toNat : Int) % 4294967296 * 256 % 4294967296) = ((c.toNat * 256 : Nat) : Int) := by omega
  have ed : ((d.toNat : Int) % 4294967296) = ((d.toNat : Nat) : Int) := by omega
  rw [ea, eb, ec, ed, join_or _ _ 24 (by omega) (by omega) (by omega) (by omega), join_or _ _ 16 (by omega) (by omega) (by omega) (by omega), join_or _ _ 8 (by omega) (by omega) (by omega) (by omega), wordOf_toNat]
  omega
end Go.Proofs.Ythpbhimmfmablaa
