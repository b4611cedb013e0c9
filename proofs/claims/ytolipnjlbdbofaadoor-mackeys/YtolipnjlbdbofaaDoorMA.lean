/- Keyed sums, and keys made of secrets, as plain functions on lists of bytes. No program is run here. -/
import Derived.Test.YtolipnjlbdbofaaDoorP
import Derived.Test.YtolipnjlbdbofaaDoorQM
namespace Go.Proofs.YtolipnjlbdbofaaDoor
/-- a text, each byte made one with another one -/
def xorB (l : List UInt8) (c : UInt8) : List UInt8 := l.map (· ^^^ c)
theorem xorB_length (l : List UInt8) (c : UInt8) : (xorB l c).length = l.length := by simp [xorB]
/-- the first k bytes made one, the others as they were -/
def xTo (l : List UInt8) (c : UInt8) (k : Nat) : List UInt8 := xorB (l.take k) c ++ l.drop k
theorem xTo_zero (l : List UInt8) (c : UInt8) : xTo l c 0 = l := by simp [xTo, xorB]
theorem xTo_length (l : List UInt8) (c : UInt8) (k : Nat) : (xTo l c k).length = l.length := by simp [xTo, xorB]; omega
theorem xTo_done (l : List UInt8) (c : UInt8) (k : Nat) (h : l.length ≤ k) : xTo l c k = xorB l c := by
  unfold xTo; rw [List.take_of_length_le h, List.drop_of_length_le h, List.append_nil]
theorem xTo_get (l : List UInt8) (c : UInt8) (k : Nat) (h : k < l.length) : (xTo l c k).getD k 0 = l.getD k 0 := by
  simp only [xTo, xorB, List.getD_eq_getElem?_getD]
  rw [List.getElem?_append_right (by simp; omega)]
  simp [Nat.min_eq_left (Nat.le_of_lt h)]
theorem xTo_set (l : List UInt8) (c : UInt8) (k : Nat) (h : k < l.length) : (xTo l c k).set k (l.getD k 0 ^^^ c) = xTo l c (k + 1) := by
  have hk : (xorB (l.take k) c).length = k := by simp [xorB]; omega
  unfold xTo
  rw [List.set_append_right _ _ (by omega), hk, Nat.sub_self, List.drop_eq_getElem_cons h, List.set_cons_zero, List.take_succ_eq_append_getElem h]
  simp only [xorB, List.map_append, List.map_cons, List.map_nil, List.append_assoc, List.cons_append, List.nil_append, List.getD_eq_getElem?_getD, List.getElem?_eq_getElem h, Option.getD_some]
/-- a key as it is taken in: one that is too long is its sum; zero bytes behind -/
def key64 (k : List UInt8) : List UInt8 :=
  if 64 < k.length then keyL (sumW k) ++ List.replicate 32 0 else k ++ List.replicate (64 - k.length) 0
theorem keyL_length (r : W8) : (keyL r).length = 32 := by simp [keyL]
theorem key64_length (k : List UInt8) : (key64 k).length = 64 := by
  unfold key64
  split
  · simp [keyL_length]
  · simp; omega
theorem key64_short (k : List UInt8) (h : k.length ≤ 64) : key64 k = k ++ List.replicate (64 - k.length) 0 := by
  unfold key64; rw [if_neg (by omega)]
theorem key64_long (k : List UInt8) (h : 64 < k.length) : key64 k = key64 (keyL (sumW k)) := by
  rw [key64_short (keyL (sumW k)) (by rw [keyL_length]; omega), keyL_length]
  unfold key64; rw [if_pos h]
theorem key64_pad (k : List UInt8) (j : Nat) (h : k.length + j ≤ 64) : key64 (k ++ List.replicate j 0) = key64 k := by
  rw [key64_short _ (by simpa using h), key64_short _ (by omega), List.append_assoc, List.length_append, List.length_replicate, List.replicate_append_replicate]
  congr 2; omega
/-- a keyed sum -/
def hmacL (k s : List UInt8) : List UInt8 := keyL (sumW (xorB (key64 k) 92 ++ keyL (sumW (xorB (key64 k) 54 ++ s))))
theorem hmacL_length (k s : List UInt8) : (hmacL k s).length = 32 := keyL_length _
theorem hmacL_pad (k s : List UInt8) (j : Nat) (h : k.length + j ≤ 64) : hmacL (k ++ List.replicate j 0) s = hmacL k s := by
  unfold hmacL; rw [key64_pad k j h]
theorem hmacL_long (k s : List UInt8) (h : 64 < k.length) : hmacL k s = hmacL (keyL (sumW k)) s := by
  unfold hmacL; rw [key64_long k h]
def jefeK : List UInt8 := [74, 101, 102, 101]
def jefeS : List UInt8 := [119, 104, 97, 116, 32, 100, 111, 32, 121, 97, 32, 119, 97, 110, 116, 32, 102, 111, 114, 32, 110, 111, 116, 104, 105, 110, 103, 63]
set_option maxRecDepth 100000 in
theorem jefe_sum : (hmacL jefeK jefeS).getD 0 0 = 91 ∧ (hmacL jefeK jefeS).getD 1 0 = 220 ∧ (hmacL jefeK jefeS).getD 30 0 = 56 ∧ (hmacL jefeK jefeS).getD 31 0 = 67 := by decide +kernel
/-- the key of each count, and what is ahead of it -/
def keyN (root info : List UInt8) : Nat → List UInt8
  | 0 => []
  | k + 1 => hmacL root (keyN root info k ++ info ++ [UInt8.ofNat (k + 1)])
theorem keyN_length (root info : List UInt8) (k : Nat) : (keyN root info (k + 1)).length = 32 := hmacL_length _ _
theorem keyN_le (root info : List UInt8) (k : Nat) : (keyN root info k).length ≤ 32 := by
  cases k with
  | zero => simp [keyN]
  | succ k => rw [keyN_length]; omega
end Go.Proofs.YtolipnjlbdbofaaDoor
