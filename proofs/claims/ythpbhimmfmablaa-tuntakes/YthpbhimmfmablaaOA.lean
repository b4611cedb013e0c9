/- Plain mathematics of the sum of 16 bits: bytes by two, what lies above 16 bits added to those. No program is run here. -/
import Derived.WalkKit
namespace Go.Proofs.Ythpbhimmfmablaa
/-- what the first k bytes of a text add: each second one as it is, the others 256 times -/
def t16 (l : List UInt8) : Nat → Nat
  | 0 => 0
  | k + 1 => t16 l k + (l.getD k 0).toNat * (if k % 2 = 0 then 256 else 1)
theorem t16_le (l : List UInt8) (k : Nat) : t16 l k ≤ 65280 * k := by
  induction k with
  | zero => exact Nat.le_refl _
  | succ k ih =>
    have := UInt8.toNat_lt (l.getD k 0)
    unfold t16
    split <;> omega
theorem t16_even (l : List UInt8) (k : Nat) (h : k % 2 = 0) : t16 l (k + 1) = t16 l k + (l.getD k 0).toNat * 256 := by
  show t16 l k + (l.getD k 0).toNat * (if k % 2 = 0 then 256 else 1) = _
  rw [if_pos h]
theorem t16_odd (l : List UInt8) (k : Nat) (h : k % 2 = 1) : t16 l (k + 1) = t16 l k + (l.getD k 0).toNat := by
  show t16 l k + (l.getD k 0).toNat * (if k % 2 = 0 then 256 else 1) = _
  rw [if_neg (by omega), Nat.mul_one]
theorem t16_front (a b : List UInt8) (k : Nat) (h : k ≤ a.length) : t16 (a ++ b) k = t16 a k := by
  induction k with
  | zero => rfl
  | succ k ih =>
    show t16 (a ++ b) k + ((a ++ b).getD k 0).toNat * (if k % 2 = 0 then 256 else 1) = t16 a k + (a.getD k 0).toNat * (if k % 2 = 0 then 256 else 1)
    rw [ih (by omega), List.getD_eq_getElem?_getD, List.getD_eq_getElem?_getD, List.getElem?_append_left (by omega)]
theorem t16_append (a b : List UInt8) (he : a.length % 2 = 0) (k : Nat) : t16 (a ++ b) (a.length + k) = t16 a a.length + t16 b k := by
  induction k with
  | zero => exact t16_front a b a.length (Nat.le_refl _)
  | succ k ih =>
    show t16 (a ++ b) (a.length + k) + ((a ++ b).getD (a.length + k) 0).toNat * (if (a.length + k) % 2 = 0 then 256 else 1) = t16 a a.length + (t16 b k + (b.getD k 0).toNat * (if k % 2 = 0 then 256 else 1))
    rw [ih, show (a.length + k) % 2 = k % 2 from by omega, List.getD_eq_getElem?_getD, List.getD_eq_getElem?_getD, List.getElem?_append_right (by omega), show a.length + k - a.length = k from by omega, Nat.add_assoc]
/-- the whole of a text, added -/
def sumL (l : List UInt8) : Nat := t16 l l.length
theorem sumL_append (a b : List UInt8) (he : a.length % 2 = 0) : sumL (a ++ b) = sumL a + sumL b := by
  unfold sumL
  rw [List.length_append, t16_append a b he]
/-- a number below 2^16 that differs from n by a multiple of 65535, and is 0 where n is alone -/
def c16 (n : Nat) : Nat := if n = 0 then 0 else (n - 1) % 65535 + 1
theorem c16_le (n : Nat) : c16 n ≤ 65535 := by unfold c16; split <;> omega
theorem c16_small (n : Nat) (h : n ≤ 65535) : c16 n = n := by unfold c16; split <;> omega
theorem c16_fold (n : Nat) : c16 (n / 65536 + n % 65536) = c16 n := by
  unfold c16
  by_cases h : n = 0
  · subst h; rfl
  · rw [if_neg h, if_neg (by omega)]
    obtain ⟨q, hq⟩ : ∃ q, n / 65536 = q := ⟨_, rfl⟩
    obtain ⟨r, hr⟩ : ∃ r, n % 65536 = r := ⟨_, rfl⟩
    have hn : n = 65535 * q + (q + r) := by omega
    rw [hq, hr]
    have h3 : n - 1 = (q + r - 1) + 65535 * q := by omega
    rw [h3, Nat.add_mul_mod_self_left]
theorem c16_add (a b : Nat) : c16 (c16 a + b) = c16 (a + b) := by
  unfold c16
  by_cases h : a = 0
  · subst h; rfl
  · rw [if_neg h, if_neg (by omega), if_neg (by omega)]
    omega
/-- the sum of 16 bits -/
def sum16 (l : List UInt8) : Nat := 65535 - c16 (sumL l)
theorem sum16_le (l : List UInt8) : sum16 l ≤ 65535 := by unfold sum16; omega
/-- a number's two bytes -/
def two (n : Nat) : List UInt8 := [UInt8.ofNat (n / 256), UInt8.ofNat n]
theorem sumL_two (n : Nat) (h : n ≤ 65535) : sumL (two n) = n := by
  show 0 + (UInt8.ofNat (n / 256)).toNat * 256 + (UInt8.ofNat n).toNat * 1 = n
  rw [UInt8.toNat_ofNat', UInt8.toNat_ofNat']
  omega
theorem sum16_own (l : List UInt8) (he : l.length % 2 = 0) : sum16 (l ++ two (sum16 l)) = 0 := by
  have h1 := sum16_le l
  have h2 : sumL (l ++ two (sum16 l)) = sumL l + sum16 l := by rw [sumL_append _ _ he, sumL_two _ h1]
  have h3 := c16_add (sumL l) (sum16 l)
  have h4 := c16_le (sumL l)
  have h5 : c16 (sumL l) + sum16 l = 65535 := by unfold sum16; omega
  rw [h5] at h3
  have h6 : sum16 (l ++ two (sum16 l)) = 65535 - c16 (sumL l + sum16 l) := by rw [sum16, h2]
  rw [h6, ← h3]
  rfl
/-- what two sums make: that of both texts, one behind the other -/
def join16 (m n : Nat) : Nat := if 65535 < (65535 - m) + (65535 - n) then (65535 - m) + (65535 - n) - 65535 else (65535 - m) + (65535 - n)
theorem c16_two (a b : Nat) : c16 (a + b) = if 65535 < c16 a + c16 b then c16 a + c16 b - 65535 else c16 a + c16 b := by
  rw [← c16_add, Nat.add_comm, ← c16_add, Nat.add_comm]
  have h1 := c16_le a
  have h2 := c16_le b
  generalize c16 a = x at h1 ⊢
  generalize c16 b = y at h2 ⊢
  by_cases h : 65535 < x + y
  · rw [if_pos h]
    unfold c16
    rw [if_neg (by omega)]
    omega
  · rw [if_neg h, c16_small _ (by omega)]
theorem sum16_two (a b : List UInt8) (he : a.length % 2 = 0) : sum16 (a ++ b) = 65535 - join16 (sum16 a) (sum16 b) := by
  have h1 := c16_le (sumL a)
  have h2 := c16_le (sumL b)
  have e1 : 65535 - sum16 a = c16 (sumL a) := by unfold sum16; omega
  have e2 : 65535 - sum16 b = c16 (sumL b) := by unfold sum16; omega
  have e3 : sum16 (a ++ b) = 65535 - c16 (sumL a + sumL b) := by rw [sum16, sumL_append _ _ he]
  rw [e3, join16, e1, e2, c16_two]
theorem sum16_swap (a b : List UInt8) (ha : a.length % 2 = 0) (hb : b.length % 2 = 0) : sum16 (b ++ a) = sum16 (a ++ b) := by
  unfold sum16
  rw [sumL_append _ _ ha, sumL_append _ _ hb, Nat.add_comm]
end Go.Proofs.Ythpbhimmfmablaa
