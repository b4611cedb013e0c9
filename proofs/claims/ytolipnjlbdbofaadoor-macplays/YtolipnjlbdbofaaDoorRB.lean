/- Numbers as digits of 8 bits, the lowest first. No program is run here. -/
import Derived.Test.YtolipnjlbdbofaaDoorA
namespace Go.Proofs.YtolipnjlbdbofaaDoor
/-- the number that the first j digits make -/
def vN (l : List Nat) : Nat → Nat
  | 0 => 0
  | j + 1 => vN l j + l.getD j 0 * 256 ^ j
def val (l : List Nat) : Nat := vN l l.length
theorem getD_lt (l : List Nat) (h : ∀ d ∈ l, d < 256) (j : Nat) : l.getD j 0 < 256 := by
  rcases Nat.lt_or_ge j l.length with hj | hj
  · rw [List.getD_eq_getElem?_getD, List.getElem?_eq_getElem hj]; exact h _ (List.getElem_mem hj)
  · rw [List.getD_eq_getElem?_getD, List.getElem?_eq_none hj]; decide
theorem vN_lt (l : List Nat) (h : ∀ d ∈ l, d < 256) (j : Nat) : vN l j < 256 ^ j := by
  induction j with
  | zero => simp [vN]
  | succ j ih =>
    have hd := getD_lt l h j
    have h2 : l.getD j 0 * 256 ^ j ≤ 255 * 256 ^ j := Nat.mul_le_mul_right _ (by omega)
    rw [Nat.pow_succ]
    unfold vN
    omega
theorem vN_append (l z : List Nat) (j : Nat) (h : j ≤ l.length) : vN (l ++ z) j = vN l j := by
  induction j with
  | zero => rfl
  | succ j ih =>
    unfold vN
    rw [ih (by omega), List.getD_eq_getElem?_getD, List.getD_eq_getElem?_getD, List.getElem?_append_left (by omega)]
theorem vN_snoc (l : List Nat) (d : Nat) : vN (l ++ [d]) (l.length + 1) = vN l l.length + d * 256 ^ l.length := by
  show vN (l ++ [d]) l.length + (l ++ [d]).getD l.length 0 * 256 ^ l.length = _
  rw [vN_append _ _ _ (Nat.le_refl _)]
  simp [List.getD_eq_getElem?_getD]
theorem val_snoc (l : List Nat) (d : Nat) : val (l ++ [d]) = val l + d * 256 ^ l.length := by
  unfold val
  rw [List.length_append, List.length_singleton, vN_snoc]
theorem vN_ext (l : List Nat) (j : Nat) : vN l (l.length + j) = val l := by
  induction j with
  | zero => rfl
  | succ j ih =>
    show vN l (l.length + j) + l.getD (l.length + j) 0 * _ = _
    rw [ih, List.getD_eq_getElem?_getD, List.getElem?_eq_none (by omega)]
    simp
theorem vN_max (l : List Nat) (N : Nat) (h : l.length ≤ N) : vN l N = val l := by
  rw [show N = l.length + (N - l.length) from by omega, vN_ext]
/-- one digit of a product -/
theorem times_step (o l : List Nat) (i x c d : Nat) (hi : o.length = i) (h : val o + c * 256 ^ i = vN l i * x) (hd : l.getD i 0 = d) :
    val (o ++ [(c + d * x) % 256]) + (c + d * x) / 256 * 256 ^ (i + 1) = vN l (i + 1) * x := by
  rw [val_snoc, hi]
  show _ = (vN l i + l.getD i 0 * 256 ^ i) * x
  rw [hd, Nat.add_mul, ← h]
  have e : c + d * x = 256 * ((c + d * x) / 256) + (c + d * x) % 256 := (Nat.div_add_mod _ _).symm
  have e2 : d * 256 ^ i * x = d * x * 256 ^ i := by rw [Nat.mul_assoc, Nat.mul_assoc, Nat.mul_comm x]
  rw [e2, Nat.pow_succ]
  have e3 : c * 256 ^ i + d * x * 256 ^ i = (c + d * x) * 256 ^ i := (Nat.add_mul _ _ _).symm
  have e4 : (c + d * x) / 256 * (256 ^ i * 256) = 256 * ((c + d * x) / 256) * 256 ^ i := by
    rw [← Nat.mul_assoc, Nat.mul_comm ((c + d * x) / 256 * 256 ^ i) 256, Nat.mul_assoc]
  rw [Nat.add_assoc, Nat.add_assoc, e3, e4]
  congr 1
  rw [← Nat.add_mul, Nat.add_comm ((c + d * x) % 256), ← e]
theorem carry_le (c d x : Nat) (hc : c ≤ x) (hd : d < 256) : (c + d * x) / 256 ≤ x := by
  have h : d * x ≤ 255 * x := Nat.mul_le_mul_right _ (by omega)
  omega
/-- a digit of what is carried on -/
theorem rest_step (o : List Nat) (c V : Nat) (h : val o + c * 256 ^ o.length = V) : val (o ++ [c % 256]) + c / 256 * 256 ^ (o.length + 1) = V := by
  rw [val_snoc, ← h, Nat.pow_succ]
  have e : c = 256 * (c / 256) + c % 256 := (Nat.div_add_mod _ _).symm
  have e4 : c / 256 * (256 ^ o.length * 256) = 256 * (c / 256) * 256 ^ o.length := by
    rw [← Nat.mul_assoc, Nat.mul_comm (c / 256 * 256 ^ o.length) 256, Nat.mul_assoc]
  rw [e4, Nat.add_assoc, ← Nat.add_mul, Nat.add_comm (c % 256), ← e]
/-- two numbers whose higher digits are the same -/
theorem cmp_ne (p m : List Nat) (hp : ∀ d ∈ p, d < 256) (hm : ∀ d ∈ m, d < 256) (i : Nat) (hne : p.getD i 0 ≠ m.getD i 0) : (vN p (i + 1) ≤ vN m (i + 1)) ↔ p.getD i 0 < m.getD i 0 := by
  have h1 := vN_lt p hp i
  have h2 := vN_lt m hm i
  show vN p i + p.getD i 0 * 256 ^ i ≤ vN m i + m.getD i 0 * 256 ^ i ↔ _
  generalize p.getD i 0 = a at *
  generalize m.getD i 0 = b at *
  rcases Nat.lt_or_ge a b with h | h
  · have h3 : (a + 1) * 256 ^ i ≤ b * 256 ^ i := Nat.mul_le_mul_right _ h
    rw [Nat.add_mul, Nat.one_mul] at h3
    exact ⟨fun _ => h, fun _ => by omega⟩
  · have h4 : b + 1 ≤ a := by omega
    have h3 : (b + 1) * 256 ^ i ≤ a * 256 ^ i := Nat.mul_le_mul_right _ h4
    rw [Nat.add_mul, Nat.one_mul] at h3
    exact ⟨fun h5 => by omega, fun h5 => by omega⟩
theorem cmp_eq (p m : List Nat) (i : Nat) (he : p.getD i 0 = m.getD i 0) : (vN p (i + 1) ≤ vN m (i + 1)) ↔ (vN p i ≤ vN m i) := by
  show vN p i + p.getD i 0 * 256 ^ i ≤ vN m i + m.getD i 0 * 256 ^ i ↔ _
  rw [he]; omega
theorem vN_zeros (k j : Nat) : vN (List.replicate k 0) j = 0 := by
  induction j with
  | zero => rfl
  | succ j ih =>
    unfold vN
    rw [ih]
    have : (List.replicate k (0 : Nat)).getD j 0 = 0 := by
      rw [List.getD_eq_getElem?_getD, List.getElem?_replicate]; split <;> rfl
    rw [this]; simp
/-- zeros ahead, and two digits -/
theorem val_limit (k n : Nat) : val ((List.replicate k 0 ++ [n % 256]) ++ [n / 256]) = n * 256 ^ k := by
  rw [val_snoc, val_snoc]
  unfold val
  rw [vN_zeros, List.length_append, List.length_replicate, List.length_singleton, Nat.zero_add, Nat.pow_succ]
  have e : n = 256 * (n / 256) + n % 256 := (Nat.div_add_mod _ _).symm
  have e4 : n / 256 * (256 ^ k * 256) = 256 * (n / 256) * 256 ^ k := by
    rw [← Nat.mul_assoc, Nat.mul_comm (n / 256 * 256 ^ k) 256, Nat.mul_assoc]
  rw [e4, Nat.add_comm, ← Nat.add_mul, ← e]
end Go.Proofs.YtolipnjlbdbofaaDoor
