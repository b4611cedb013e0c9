/- Numbers as lists of digits, the lowest first. No program is run here. -/
import Derived.Test.YtdikkdediofieaaF
import Derived.Laws.Bits64b
namespace Go.Proofs.Ytdikkdediofieaa
open Go.RowKit
/-- the number of digits to a base, the lowest first -/
def num (B : Nat) : List Nat → Nat
  | [] => 0
  | a :: l => a + B * num B l
/-- k digits of a number -/
def dg (B : Nat) (n : Nat) : Nat → List Nat
  | 0 => []
  | k + 1 => (n % B) :: dg B (n / B) k
def Dig (B : Nat) (l : List Nat) : Prop := ∀ a ∈ l, a < B
theorem Dig.nil (B : Nat) : Dig B [] := by intro a h; cases h
theorem Dig.cons {B a : Nat} {l : List Nat} (h : a < B) (hl : Dig B l) : Dig B (a :: l) := by
  intro x hx
  rcases List.mem_cons.1 hx with rfl | hx
  · exact h
  · exact hl x hx
theorem Dig.head {B a : Nat} {l : List Nat} (h : Dig B (a :: l)) : a < B := h a (by simp)
theorem Dig.tail {B a : Nat} {l : List Nat} (h : Dig B (a :: l)) : Dig B l := fun x hx => h x (by simp [hx])
theorem Dig.set {B : Nat} {l : List Nat} (h : Dig B l) (i : Nat) {v : Nat} (hv : v < B) : Dig B (l.set i v) := by
  intro x hx
  rcases List.mem_or_eq_of_mem_set hx with hx | rfl
  · exact h x hx
  · exact hv
theorem Dig.getD {B : Nat} {l : List Nat} (h : Dig B l) (hB : 0 < B) (i : Nat) : l.getD i 0 < B := by
  rw [List.getD_eq_getElem?_getD]
  cases hi : l[i]? with
  | none => exact hB
  | some x => exact h x (List.mem_of_getElem? hi)
theorem Dig.append {B : Nat} {l m : List Nat} (h : Dig B l) (h2 : Dig B m) : Dig B (l ++ m) := by
  intro x hx
  rcases List.mem_append.1 hx with hx | hx
  · exact h x hx
  · exact h2 x hx
theorem Dig.one {B v : Nat} (hv : v < B) : Dig B [v] := Dig.cons hv (Dig.nil B)
theorem Dig.take {B : Nat} {l : List Nat} (h : Dig B l) (i : Nat) : Dig B (l.take i) := fun x hx => h x (List.mem_of_mem_take hx)
theorem Dig.drop {B : Nat} {l : List Nat} (h : Dig B l) (i : Nat) : Dig B (l.drop i) := fun x hx => h x (List.mem_of_mem_drop hx)
theorem Dig.zeros (B : Nat) (hB : 0 < B) (n : Nat) : Dig B (List.replicate n 0) := fun x hx => by rw [(List.mem_replicate.1 hx).2]; exact hB
theorem dg_length (B n k : Nat) : (dg B n k).length = k := by
  induction k generalizing n with
  | zero => rfl
  | succ k ih => simp [dg, ih]
theorem dg_dig (B n k : Nat) (hB : 0 < B) : Dig B (dg B n k) := by
  induction k generalizing n with
  | zero => exact Dig.nil B
  | succ k ih => exact Dig.cons (Nat.mod_lt _ hB) (ih _)
theorem num_dg (B n k : Nat) : num B (dg B n k) = n % B ^ k := by
  induction k generalizing n with
  | zero => simp [dg, num, Nat.mod_one]
  | succ k ih => simp only [dg, num, ih]; rw [Nat.pow_succ', Nat.mod_mul]
theorem dg_num (B : Nat) (l : List Nat) (h : Dig B l) : dg B (num B l) l.length = l := by
  induction l with
  | nil => rfl
  | cons a l ih =>
    have ha := h.head
    have hB : 0 < B := by omega
    simp only [dg, num, List.length_cons, Nat.add_mul_mod_self_left, Nat.mod_eq_of_lt ha, Nat.add_mul_div_left _ _ hB, Nat.div_eq_of_lt ha, Nat.zero_add, ih h.tail]
theorem num_lt (B : Nat) (l : List Nat) (h : Dig B l) : num B l < B ^ l.length := by
  induction l with
  | nil => simp [num]
  | cons a l ih =>
    have ha := h.head
    have h2 := ih h.tail
    simp only [num, List.length_cons, Nat.pow_succ']
    have : B * (num B l + 1) ≤ B * B ^ l.length := Nat.mul_le_mul_left B h2
    rw [Nat.mul_add, Nat.mul_one] at this
    omega
theorem dg_mod (B n k : Nat) (hB : 0 < B) : dg B (n % B ^ k) k = dg B n k := by
  have h := dg_num B (dg B n k) (dg_dig B n k hB)
  rw [num_dg, dg_length] at h
  exact h
theorem dg_of {B : Nat} {l : List Nat} {n k : Nat} (hB : 0 < B) (h : Dig B l) (hl : l.length = k) (hn : num B l = n % B ^ k) : l = dg B n k := by
  rw [← dg_mod B n k hB, ← hn, ← hl, dg_num B l h]
theorem dg_getD (B n k i : Nat) (h : i < k) : (dg B n k).getD i 0 = n / B ^ i % B := by
  induction k generalizing n i with
  | zero => cases h
  | succ k ih =>
    cases i with
    | zero => simp [dg]
    | succ i =>
      simp only [dg, List.getD_cons_succ]
      rw [ih (n / B) i (by omega), Nat.div_div_eq_div_mul, ← Nat.pow_succ']
theorem num_append (B : Nat) (l m : List Nat) : num B (l ++ m) = num B l + B ^ l.length * num B m := by
  induction l with
  | nil => simp [num]
  | cons a l ih => simp only [List.cons_append, num, ih, List.length_cons, Nat.pow_succ', Nat.mul_add, Nat.mul_assoc, Nat.add_assoc]
theorem num_zeros (B n : Nat) : num B (List.replicate n 0) = 0 := by
  induction n with
  | zero => rfl
  | succ n ih => simp [List.replicate_succ, num, ih]
theorem num_take_succ (B : Nat) (l : List Nat) (i : Nat) (h : i < l.length) : num B (l.take (i + 1)) = num B (l.take i) + l.getD i 0 * B ^ i := by
  rw [List.take_succ_eq_append_getElem h, num_append, List.length_take, Nat.min_eq_left (by omega), List.getD_eq_getElem?_getD, List.getElem?_eq_getElem h]
  simp [num, Nat.mul_comm]
theorem num_split (B : Nat) (l : List Nat) (i : Nat) (h : i ≤ l.length) : num B l = num B (l.take i) + B ^ i * num B (l.drop i) := by
  have e := num_append B (l.take i) (l.drop i)
  rw [List.take_append_drop, List.length_take, Nat.min_eq_left h] at e
  exact e
theorem num_set (B : Nat) (l : List Nat) (i v : Nat) (h : i < l.length) : num B (l.set i v) + l.getD i 0 * B ^ i = num B l + v * B ^ i := by
  induction l generalizing i with
  | nil => cases h
  | cons a l ih =>
    cases i with
    | zero => simp [num]; omega
    | succ i =>
      have := ih i (by simpa using h)
      simp only [List.set_cons_succ, num, List.getD_cons_succ, Nat.pow_succ']
      have e : B * (num B (l.set i v) + l.getD i 0 * B ^ i) = B * (num B l + v * B ^ i) := by rw [this]
      rw [Nat.mul_add, Nat.mul_add, Nat.mul_left_comm B, Nat.mul_left_comm B v] at e
      omega
theorem take_set_succ (l : List Nat) (i v : Nat) (h : i < l.length) : (l.set i v).take (i + 1) = l.take i ++ [v] := by
  induction l generalizing i with
  | nil => cases h
  | cons a l ih =>
    cases i with
    | zero => simp
    | succ i => simp [ih i (by simpa using h)]
theorem take_set_ge (l : List Nat) (i v j : Nat) (h : j ≤ i) : (l.set i v).take j = l.take j := by
  induction l generalizing i j with
  | nil => simp
  | cons a l ih =>
    cases j with
    | zero => simp
    | succ j =>
      cases i with
      | zero => omega
      | succ i => simp [ih i j (by omega)]
theorem drop_set_lt (l : List Nat) (i v j : Nat) (h : i < j) : (l.set i v).drop j = l.drop j := by
  induction l generalizing i j with
  | nil => simp
  | cons a l ih =>
    cases j with
    | zero => omega
    | succ j =>
      cases i with
      | zero => simp
      | succ i => simp [ih i j (by omega)]
theorem num_take_set (B : Nat) (l : List Nat) (i v : Nat) (h : i < l.length) : num B ((l.set i v).take (i + 1)) = num B (l.take i) + v * B ^ i := by
  rw [take_set_succ l i v h, num_append, List.length_take, Nat.min_eq_left (by omega)]
  simp [num, Nat.mul_comm]
theorem getD_set_other (l : List Nat) (i v j : Nat) (h : i ≠ j) : (l.set i v).getD j 0 = l.getD j 0 := by
  rw [List.getD_eq_getElem?_getD, List.getD_eq_getElem?_getD, List.getElem?_set_ne h]
theorem getD_of_drop (l m : List Nat) (i j : Nat) (h : l.drop i = m.drop i) (hj : i ≤ j) : l.getD j 0 = m.getD j 0 := by
  have e : ∀ x : List Nat, x.getD j 0 = (x.drop i).getD (j - i) 0 := fun x => by
    rw [List.getD_eq_getElem?_getD, List.getD_eq_getElem?_getD, List.getElem?_drop, show i + (j - i) = j from by omega]
  rw [e l, e m, h]
theorem drop_succ_of (l m : List Nat) (i : Nat) (h : l.drop i = m.drop i) : l.drop (i + 1) = m.drop (i + 1) := by
  have e : ∀ x : List Nat, x.drop (i + 1) = (x.drop i).drop 1 := fun x => by rw [List.drop_drop]
  rw [e l, e m, h]
theorem getD_num (B : Nat) (l : List Nat) (h : Dig B l) (i : Nat) (hi : i < l.length) : l.getD i 0 = num B l / B ^ i % B := by
  rw [← dg_getD B (num B l) l.length i hi, dg_num B l h]
theorem num_take (B : Nat) (l : List Nat) (h : Dig B l) (i : Nat) (hi : i ≤ l.length) : num B (l.take i) = num B l % B ^ i := by
  have h1 := num_split B l i hi
  have h2 := num_lt B _ (h.take i)
  rw [List.length_take, Nat.min_eq_left hi] at h2
  rw [h1, Nat.add_mul_mod_self_left, Nat.mod_eq_of_lt h2]
theorem num_drop (B : Nat) (hB : 0 < B) (l : List Nat) (h : Dig B l) (i : Nat) (hi : i ≤ l.length) : num B (l.drop i) = num B l / B ^ i := by
  have h1 := num_split B l i hi
  have h2 := num_lt B _ (h.take i)
  rw [List.length_take, Nat.min_eq_left hi] at h2
  rw [h1, Nat.add_mul_div_left _ _ (Nat.pow_pos hB), Nat.div_eq_of_lt h2, Nat.zero_add]
/-- one digit of a product's row -/
theorem step_mul (B : Nat) (o : List Nat) (k s p c : Nat) (hk : k < o.length) (hs : s = p + o.getD k 0 + c) :
    num B (o.set k (s % B)) + s / B * B ^ (k + 1) = num B o + c * B ^ k + p * B ^ k := by
  have h1 := num_set B o k (s % B) hk
  have h2 : s % B * B ^ k + s / B * B ^ (k + 1) = (p + o.getD k 0 + c) * B ^ k := by
    rw [← hs, Nat.pow_succ', ← Nat.mul_assoc, ← Nat.add_mul, Nat.mul_comm (s / B) B, Nat.mod_add_div]
  rw [Nat.add_mul, Nat.add_mul] at h2
  omega
/-- one digit of a sum -/
theorem step_add (B t S c i s : Nat) (h : t + c * B ^ i = S) (d : Nat) (hs : s = d + c) : t + s % B * B ^ i + s / B * B ^ (i + 1) = S + d * B ^ i := by
  have h2 : s % B * B ^ i + s / B * B ^ (i + 1) = (d + c) * B ^ i := by
    rw [← hs, Nat.pow_succ', ← Nat.mul_assoc, ← Nat.add_mul, Nat.mul_comm (s / B) B, Nat.mod_add_div]
  rw [Nat.add_mul] at h2
  omega

/-- a word of 64 bits as the program's value -/
abbrev U64 (n : Nat) : Value := .int .u64 (n : Int)
/-- words as cells -/
def us (l : List Nat) : Array Value := (l.map U64).toArray
theorem us_size (l : List Nat) : (us l).size = l.length := by simp [us]
theorem us_get (l : List Nat) (i : Nat) (h : i < l.length) : (us l)[i]? = some (U64 (l.getD i 0)) := by simp [us, h]
theorem us_set (l : List Nat) (i x : Nat) : (us l).setIfInBounds i (U64 x) = us (l.set i x) := by simp [us, List.map_set]
theorem us_one (l : List Nat) : (us l).all (·.oneCell') = true := by simp [us, Value.oneCell']
theorem Has.u64 {w : World} {g : Nat} {t : TypeId} {l : List Nat} (h : Has w g t (us l)) (i : Nat) (hi : i < l.length) : w.cell? ⟨g, i, none⟩ = some (U64 (l.getD i 0)) := by
  rw [h.cell, us_get l i hi]
theorem Has.setU {w : World} {g : Nat} {t : TypeId} {l : List Nat} (h : Has w g t (us l)) (i x : Nat) : Has (w.setCell ⟨g, i, none⟩ (U64 x)) g t (us (l.set i x)) := by
  rw [← us_set]; exact h.set i _
/-- the number of bytes -/
def nb (l : List UInt8) : Nat := num 256 (l.map UInt8.toNat)
theorem bytes_dig (l : List UInt8) : Dig 256 (l.map UInt8.toNat) := by
  intro a h
  obtain ⟨x, _, rfl⟩ := List.mem_map.1 h
  exact x.toNat_lt
theorem nb_lt (l : List UInt8) : nb l < 256 ^ l.length := by
  have := num_lt 256 _ (bytes_dig l)
  rw [List.length_map] at this
  exact this
/-- a number's k lowest bytes -/
def lowB (n k : Nat) : List UInt8 := (dg 256 n k).map UInt8.ofNat
theorem lowB_length (n k : Nat) : (lowB n k).length = k := by simp [lowB, dg_length]
theorem lowB_nb (l : List UInt8) : lowB (nb l) l.length = l := by
  unfold lowB nb
  have h := dg_num 256 _ (bytes_dig l)
  rw [List.length_map] at h
  rw [h, List.map_map]
  conv => rhs; rw [← List.map_id l]
  exact List.map_congr_left (fun x _ => by simp)
theorem nb_lowB (n k : Nat) : nb (lowB n k) = n % 256 ^ k := by
  unfold nb lowB
  rw [List.map_map, ← num_dg 256 n k]
  congr 1
  conv => rhs; rw [← List.map_id (dg 256 n k)]
  exact List.map_congr_left (fun x hx => by
    have := dg_dig 256 n k (by omega) x hx
    simp [UInt8.toNat_ofNat', Nat.mod_eq_of_lt this])
theorem lowB_getD (n k i : Nat) (h : i < k) : (lowB n k).getD i 0 = UInt8.ofNat (n / 256 ^ i % 256) := by
  unfold lowB
  rw [← dg_getD 256 n k i h, List.getD_eq_getElem?_getD, List.getD_eq_getElem?_getD, List.getElem?_map]
  cases (dg 256 n k)[i]? <;> rfl
theorem nb_take_succ (l : List UInt8) (i : Nat) (h : i < l.length) : nb (l.take (i + 1)) = nb (l.take i) + (l.getD i 0).toNat * 256 ^ i := by
  unfold nb
  rw [List.map_take, List.map_take, num_take_succ 256 _ i (by simpa using h)]
  congr 2
  simp [List.getD_eq_getElem?_getD, h]
end Go.Proofs.Ytdikkdediofieaa
