/- Datagrams there and back: plain facts. No program is run here. -/
import Derived.Test.YthpbhimmfmablaaTUC
namespace Go.Proofs.Ythpbhimmfmablaa
open Go.RowKit
theorem numP_app (A r : List UInt8) (k : Nat) (h : k ≤ A.length) : numP (A ++ r) k = numP A k := by
  induction k with
  | zero => rfl
  | succ k ih =>
    show numP (A ++ r) k * 256 + ((A ++ r).getD k 0).toNat = numP A k * 256 + (A.getD k 0).toNat
    rw [ih (by omega), List.getD_eq_getElem?_getD, List.getElem?_append_left (by omega), ← List.getD_eq_getElem?_getD]
theorem num_eight (n : Nat) (h : n < 18446744073709551616) (r : List UInt8) : numP (beTail n 8 ++ r) 8 = n := by
  rw [beTail_split n h, numP_eight, List.append_assoc, numP_app _ _ 4 (by rw [beTail_length]; omega), List.drop_left' (beTail_length _ _), numP_app _ _ 4 (by rw [beTail_length]; omega), num_four _ (by omega), num_four _ (by omega)]
  omega
theorem tail_eight (l : List UInt8) (h : 8 ≤ l.length) : beTail (numP l 8) 8 = l.take 8 := by
  have h1 := numP_lt l 4
  have h2 := numP_lt (l.drop 4) 4
  have hp : (256 : Nat) ^ 4 = 4294967296 := rfl
  rw [hp] at h1 h2
  have e := numP_eight l
  rw [beTail_split _ (by omega), show numP l 8 / 4294967296 % 4294967296 = numP l 4 from by omega, show numP l 8 % 4294967296 = numP (l.drop 4) 4 from by omega]
  have t1 : numP l 4 = numP (l.take 4) 4 := by
    conv => lhs; rw [← List.take_append_drop 4 l]
    exact numP_app _ _ 4 (by rw [List.length_take]; omega)
  have t2 : numP (l.drop 4) 4 = numP ((l.drop 4).take 4) 4 := by
    conv => lhs; rw [← List.take_append_drop 4 (l.drop 4)]
    exact numP_app _ _ 4 (by rw [List.length_take, List.length_drop]; omega)
  rw [t1, t2, tail_four (by rw [List.length_take]; omega), tail_four (by rw [List.length_take, List.length_drop]; omega)]
  have := List.take_add (l := l) (i := 4) (j := 4)
  exact this.symm
theorem numP_lt8 (l : List UInt8) : numP l 8 < 18446744073709551616 := numP_lt l 8
theorem bAt_cat (x : UInt8) (r : List UInt8) (b : ByteArray) : bAt ((⟨(x :: r).toArray⟩ : ByteArray) ++ b) 0 = x := by
  unfold bAt
  rw [ByteArray.data_append, Array.toList_append]
  rfl
theorem ext_cat (l : List UInt8) (b : ByteArray) (k : Nat) (h : l.length = k) : ((⟨l.toArray⟩ : ByteArray) ++ b).extract k ((⟨l.toArray⟩ : ByteArray) ++ b).size = b := by
  subst h
  apply ByteArray.ext
  apply Array.toList_inj.1
  rw [ext_mid, cat_list, List.drop_left]
theorem low1 : lowB1 1 = 1 := rfl
theorem low2 : lowB1 2 = 2 := rfl
theorem low_of (b : UInt8) : lowB1 (b.toNat : Int) = b := by
  have := b.toNat_lt
  apply UInt8.toNat_inj.1
  unfold lowB1
  rw [UInt8.toNat_ofNat']
  omega
/-- what is printed is parsed as it was -/
theorem parse_print12 (x : G12) (hn : x.n < 18446744073709551616) (h : (print12 x).2 = 0) : parse12 (print12 x).1 = (0, x) := by
  obtain ⟨k, n, b⟩ := x
  unfold print12 at h ⊢
  simp only at h ⊢ hn
  by_cases h1 : k = 1 ∨ k = 2
  · rw [if_pos h1] at h ⊢
    by_cases h2 : n = 0 ∧ b.size = 48
    · rw [if_pos h2]
      obtain ⟨rfl, hb⟩ := h2
      unfold parse12
      simp only
      have hz : ((⟨[lowB1 k].toArray⟩ : ByteArray) ++ b).size = 49 := by rw [cat_size]; simp; omega
      have hx := ext_cat [lowB1 k] b 1 rfl
      rw [hz] at hx ⊢
      rw [bAt_cat, hx]
      rcases h1 with rfl | rfl
      · rw [low1]
        rfl
      · rw [low2]
        rfl
    · rw [if_neg h2] at h
      cases h
  · rw [if_neg h1] at h ⊢
    by_cases h3 : k = 3
    · rw [if_pos h3] at h ⊢
      by_cases h4 : 16 ≤ b.size
      · rw [if_pos h4]
        subst h3
        unfold parse12
        simp only
        have hz : ((⟨(3 :: beTail n 8).toArray⟩ : ByteArray) ++ b).size = 9 + b.size := by rw [cat_size, List.length_cons, beTail_length]
        have hx := ext_cat (3 :: beTail n 8) b 9 (by rw [List.length_cons, beTail_length])
        rw [hz] at hx ⊢
        rw [bAt_cat, hx, cat_list]
        rw [if_neg (by omega), if_neg (by decide), if_pos rfl, if_neg (by omega)]
        have e : List.drop 1 ((3 :: beTail n 8) ++ b.data.toList) = beTail n 8 ++ b.data.toList := rfl
        rw [e, num_eight n hn]
      · rw [if_neg h4] at h
        cases h
    · rw [if_neg h3] at h
      cases h
/-- what isn't printed is nothing -/
theorem print_no12 (x : G12) (h : (print12 x).2 ≠ 0) : print12 x = (⟨#[]⟩, 3) := by
  unfold print12 at h ⊢
  split
  · rename_i h1
    rw [if_pos h1] at h
    split
    · rename_i h2
      rw [if_pos h2] at h
      exact absurd rfl h
    · rfl
  · rename_i h1
    rw [if_neg h1] at h
    split
    · rename_i h2
      rw [if_pos h2] at h
      split
      · rename_i h3
        rw [if_pos h3] at h
        exact absurd rfl h
      · rfl
    · rfl
theorem bytes_ext {a b : ByteArray} (h : a.data.toList = b.data.toList) : a = b := by
  apply ByteArray.ext
  exact Array.toList_inj.1 h
theorem bAt_cons (s : ByteArray) (h : 1 ≤ s.size) : s.data.toList = bAt s 0 :: s.data.toList.drop 1 := by
  have hl : s.data.toList.length = s.size := len_list s
  unfold bAt
  cases hs : s.data.toList with
  | nil => rw [hs] at hl; simp at hl; omega
  | cons x r => rfl
/-- what is parsed is what is printed of it -/
theorem print_parse12 (s : ByteArray) (h : (parse12 s).1 = 0) : print12 (parse12 s).2 = (s, 0) := by
  have hcons := fun h => bAt_cons s h
  unfold parse12 at h ⊢
  by_cases h0 : s.size < 1
  · rw [if_pos h0] at h; cases h
  rw [if_neg h0] at h ⊢
  have hc := hcons (by omega)
  have hl : s.data.toList.length = s.size := len_list s
  by_cases h1 : bAt s 0 = 1 ∨ bAt s 0 = 2
  · rw [if_pos h1] at h ⊢
    by_cases h2 : s.size < 49
    · rw [if_pos h2] at h; cases h
    rw [if_neg h2] at h ⊢
    by_cases h3 : s.size = 49
    · rw [if_pos h3]
      unfold print12
      simp only
      have hk : ((bAt s 0).toNat : Int) = 1 ∨ ((bAt s 0).toNat : Int) = 2 := by
        rcases h1 with h1 | h1
        · left; rw [h1]; rfl
        · right; rw [h1]; rfl
      rw [if_pos hk, if_pos ⟨trivial, by rw [ByteArray.size_extract]; omega⟩, low_of]
      congr 1
      apply bytes_ext
      rw [cat_list, ext_mid]
      exact hc.symm
    · rw [if_neg h3] at h; cases h
  rw [if_neg h1] at h ⊢
  by_cases h3 : bAt s 0 = 3
  · rw [if_pos h3] at h ⊢
    by_cases h4 : s.size < 25
    · rw [if_pos h4] at h; cases h
    rw [if_neg h4]
    unfold print12
    simp only
    rw [if_neg (by omega), if_pos trivial, if_pos (by rw [ByteArray.size_extract]; omega)]
    congr 1
    apply bytes_ext
    rw [cat_list, ext_mid, tail_eight _ (by rw [List.length_drop]; omega)]
    conv => rhs; rw [hc, h3]
    rw [List.cons_append]
    congr 1
    have e : s.data.toList.drop 9 = (s.data.toList.drop 1).drop 8 := by rw [List.drop_drop]
    rw [e, List.take_append_drop]
  · rw [if_neg h3] at h; cases h
theorem parse_no12 (s : ByteArray) (h : (parse12 s).1 ≠ 0) : (parse12 s).2 = gz := by
  unfold parse12 at h ⊢
  split
  · rfl
  · rename_i h0
    rw [if_neg h0] at h
    split
    · rename_i h1
      rw [if_pos h1] at h
      split
      · rfl
      · rename_i h2
        rw [if_neg h2] at h
        split
        · rename_i h3
          rw [if_pos h3] at h
          exact absurd rfl h
        · rfl
    · rename_i h1
      rw [if_neg h1] at h
      split
      · rename_i h2
        rw [if_pos h2] at h
        split
        · rfl
        · rename_i h3
          rw [if_neg h3] at h
          exact absurd rfl h
      · rfl
theorem parse_n12 (s : ByteArray) : (parse12 s).2.n < 18446744073709551616 := by
  unfold parse12
  have h := numP_lt8 (s.data.toList.drop 1)
  generalize numP (s.data.toList.drop 1) 8 = N at h ⊢
  repeat' split
  all_goals first
    | (show N < 18446744073709551616; exact h)
    | (show (0 : Nat) < 18446744073709551616; omega)
theorem parse_b12 (s : ByteArray) : (parse12 s).2.b.size ≤ s.size := by
  have h1 : (s.extract 1 s.size).size ≤ s.size := by rw [ByteArray.size_extract]; omega
  have h9 : (s.extract 9 s.size).size ≤ s.size := by rw [ByteArray.size_extract]; omega
  unfold parse12
  generalize s.extract 1 s.size = A at h1 ⊢
  generalize s.extract 9 s.size = B at h9 ⊢
  generalize numP (s.data.toList.drop 1) 8 = N
  repeat' split
  all_goals first
    | (show A.size ≤ _; exact h1)
    | (show B.size ≤ _; exact h9)
    | exact Nat.zero_le _
theorem print_size12 (x : G12) : (print12 x).1.size ≤ x.b.size + 9 := by
  unfold print12
  repeat' split
  all_goals first
    | (show ((⟨_⟩ : ByteArray) ++ x.b).size ≤ _; rw [cat_size]; simp [beTail_length]; try omega)
    | (show (0 : Nat) ≤ _; omega)
end Go.Proofs.Ythpbhimmfmablaa
