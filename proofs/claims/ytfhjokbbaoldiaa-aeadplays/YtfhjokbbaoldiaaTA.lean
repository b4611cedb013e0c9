/- ChaCha20 as plain functions on lists of words and bytes. No program is run here. -/
import Derived.Test.YtfhjokbbaoldiaaF
namespace Go.Proofs.Ytfhjokbbaoldiaa
open Go.RowKit

/-- a word turned left -/
def rotl (x : UInt32) (n : Nat) : UInt32 := rotr x (32 - n)
theorem rotN_sum (x n : Nat) (hx : x < 4294967296) (hn : n ≤ 32) : rotN x n = x * 2 ^ (32 - n) % 4294967296 + x / 2 ^ n := by
  unfold rotN
  have e : (4294967296 : Nat) = 2 ^ n * 2 ^ (32 - n) := by rw [← Nat.pow_add, show n + (32 - n) = 32 from by omega]
  refine nat_join (32 - n) _ _ ?_ ?_
  · rw [Nat.mod_mod_of_dvd _ ⟨2 ^ n, by rw [e, Nat.mul_comm]⟩]; exact Nat.mul_mod_left _ _
  · rw [e] at hx; exact Nat.div_lt_of_lt_mul hx
theorem rotr_sum (x : UInt32) (n : Nat) (hn : n ≤ 32) : (rotr x n).toNat = x.toNat * 2 ^ (32 - n) % 4294967296 + x.toNat / 2 ^ n := by
  rw [rotr_toNat, rotN_sum _ _ (lt32 x) hn]
theorem rot_form (A B q r : Nat) (hr : r < B) (hAB : A * B = 4294967296) : (q * B + r) * A % 4294967296 + (q * B + r) / B = r * A + q := by
  have hB : 0 < B := by omega
  have hA : 0 < A := by
    rcases Nat.eq_zero_or_pos A with h | h
    · subst h; omega
    · exact h
  have h1 : r * A < 4294967296 := by
    rw [← hAB, Nat.mul_comm A B]; exact Nat.mul_lt_mul_of_pos_right hr hA
  have e : (q * B + r) * A = r * A + 4294967296 * q := by
    rw [← hAB, Nat.add_mul, Nat.mul_assoc, Nat.mul_comm B A, Nat.add_comm, Nat.mul_comm q (A * B)]
  have e2 : (q * B + r) / B = q := by
    rw [Nat.mul_comm, Nat.mul_add_div hB, Nat.div_eq_of_lt hr]; omega
  rw [e, e2, Nat.add_mul_mod_self_left, Nat.mod_eq_of_lt h1]
theorem pow_parts (k : Nat) (hk : k ≤ 32) : 2 ^ k * 2 ^ (32 - k) = 4294967296 := by rw [← Nat.pow_add, show k + (32 - k) = 32 from by omega]
theorem rotl_form (x : UInt32) (k : Nat) (hk : k ≤ 32) : (rotl x k).toNat = x.toNat % 2 ^ (32 - k) * 2 ^ k + x.toNat / 2 ^ (32 - k) := by
  have hp : 0 < 2 ^ (32 - k) := Nat.pow_pos (by omega)
  rw [rotl, rotr_sum _ _ (by omega), show 32 - (32 - k) = k from by omega]
  have h := rot_form (2 ^ k) (2 ^ (32 - k)) (x.toNat / 2 ^ (32 - k)) (x.toNat % 2 ^ (32 - k)) (Nat.mod_lt _ hp) (pow_parts k hk)
  rw [Nat.mul_comm (x.toNat / _), Nat.div_add_mod] at h
  exact h
theorem turn_back (x : UInt32) (k : Nat) (hk : k ≤ 32) : rotr (rotl x k) k = x := by
  apply UInt32.toNat_inj.1
  have hp : 0 < 2 ^ (32 - k) := Nat.pow_pos (by omega)
  have hx := lt32 x
  have hq : x.toNat / 2 ^ (32 - k) < 2 ^ k := by
    rw [← pow_parts k hk, Nat.mul_comm] at hx
    exact Nat.div_lt_of_lt_mul hx
  rw [rotr_sum _ _ hk, rotl_form x k hk, rot_form (2 ^ (32 - k)) (2 ^ k) _ _ hq (by rw [Nat.mul_comm]; exact pow_parts k hk), Nat.mul_comm, Nat.div_add_mod]
/-- a word turned left, a bit a time -/
def leftN (x : UInt32) : Nat → UInt32
  | 0 => x
  | k + 1 => 2 * leftN x k + shrw (leftN x k) 31
theorem left_step (A B q t r : Nat) (hq : q < A) (hr : r < B) (ht : t < 2) (hAB : A * B = 2147483648) :
    (2 * ((t * B + r) * A + q) % 4294967296 + ((t * B + r) * A + q) / 2147483648) % 4294967296 = r * (2 * A) + (2 * q + t) := by
  have h1 : r * A + q < 2147483648 := by
    have : (r + 1) * A ≤ B * A := Nat.mul_le_mul_right A hr
    rw [Nat.add_mul, Nat.one_mul, Nat.mul_comm B A, hAB] at this
    omega
  have e : (t * B + r) * A + q = t * 2147483648 + (r * A + q) := by
    rw [Nat.add_mul, Nat.mul_assoc, Nat.mul_comm B A, hAB, Nat.add_assoc]
  have e2 : r * (2 * A) = 2 * (r * A) := by rw [← Nat.mul_assoc, Nat.mul_comm r 2, Nat.mul_assoc]
  rw [e, e2, show 2 * (r * A) + (2 * q + t) = 2 * (r * A + q) + t from by omega]
  clear e e2 hAB
  generalize r * A + q = y at h1
  have d1 : (t * 2147483648 + y) / 2147483648 = t := by omega
  have d2 : 2 * (t * 2147483648 + y) % 4294967296 = 2 * y := by omega
  rw [d1, d2, Nat.mod_eq_of_lt (by omega)]
theorem leftN_form (x : UInt32) (k : Nat) (hk : k ≤ 31) : (leftN x k).toNat = x.toNat % 2 ^ (32 - k) * 2 ^ k + x.toNat / 2 ^ (32 - k) := by
  have hx := lt32 x
  induction k with
  | zero => show x.toNat = _; simp only [Nat.pow_zero, Nat.sub_zero, Nat.reducePow]; omega
  | succ k ih =>
    have ih := ih (by omega)
    show (2 * leftN x k + shrw (leftN x k) 31).toNat = _
    have e2 : (2 : UInt32).toNat = 2 := rfl
    rw [UInt32.toNat_add, UInt32.toNat_mul, shrw_toNat, ih, e2, show 32 - (k + 1) = 31 - k from by omega]
    have hB : 0 < 2 ^ (31 - k) := Nat.pow_pos (by omega)
    have eB : 2 ^ (32 - k) = 2 ^ (31 - k) * 2 := by rw [show 32 - k = (31 - k) + 1 from by omega, Nat.pow_succ]
    have hAB : 2 ^ k * 2 ^ (31 - k) = 2147483648 := by rw [← Nat.pow_add, show k + (31 - k) = 31 from by omega]
    have hq : x.toNat / 2 ^ (32 - k) < 2 ^ k := by
      rw [← pow_parts k (by omega), Nat.mul_comm] at hx
      exact Nat.div_lt_of_lt_mul hx
    have ht : x.toNat / 2 ^ (31 - k) % 2 < 2 := Nat.mod_lt _ (by omega)
    have hs := left_step (2 ^ k) (2 ^ (31 - k)) (x.toNat / 2 ^ (32 - k)) (x.toNat / 2 ^ (31 - k) % 2) (x.toNat % 2 ^ (31 - k)) hq (Nat.mod_lt _ hB) ht hAB
    have er : x.toNat % 2 ^ (32 - k) = x.toNat / 2 ^ (31 - k) % 2 * 2 ^ (31 - k) + x.toNat % 2 ^ (31 - k) := by
      rw [eB, Nat.mod_mul, Nat.add_comm, Nat.mul_comm]
    have eq : 2 * (x.toNat / 2 ^ (32 - k)) + x.toNat / 2 ^ (31 - k) % 2 = x.toNat / 2 ^ (31 - k) := by
      rw [eB, ← Nat.div_div_eq_div_mul]; omega
    rw [eq, ← er, show 2 * 2 ^ k = 2 ^ (k + 1) from by rw [Nat.pow_succ, Nat.mul_comm]] at hs
    exact hs
theorem leftN_rotl (x : UInt32) (k : Nat) (hk : k ≤ 31) : leftN x k = rotl x k := by
  apply UInt32.toNat_inj.1
  rw [leftN_form x k hk, rotl_form x k (by omega)]
/-- four words -/
structure W4 where
  a : UInt32
  b : UInt32
  c : UInt32
  d : UInt32
/-- a quarter: its first half and its second -/
def qh1 (v : W4) : W4 := ⟨v.a + v.b, rotl (v.b ^^^ (v.c + rotl (v.d ^^^ (v.a + v.b)) 16)) 12, v.c + rotl (v.d ^^^ (v.a + v.b)) 16, rotl (v.d ^^^ (v.a + v.b)) 16⟩
def qh2 (v : W4) : W4 := ⟨v.a + v.b, rotl (v.b ^^^ (v.c + rotl (v.d ^^^ (v.a + v.b)) 8)) 7, v.c + rotl (v.d ^^^ (v.a + v.b)) 8, rotl (v.d ^^^ (v.a + v.b)) 8⟩
def qr (a b c d : UInt32) : W4 := qh2 (qh1 ⟨a, b, c, d⟩)
theorem qr_awake : (qr 0x11111111 0x01020304 0x9b8d6f43 0x01234567).a = 0xea2a92f4 ∧ (qr 0x11111111 0x01020304 0x9b8d6f43 0x01234567).b = 0xcb1cf8ce ∧ (qr 0x11111111 0x01020304 0x9b8d6f43 0x01234567).c = 0x4581472e ∧ (qr 0x11111111 0x01020304 0x9b8d6f43 0x01234567).d = 0x5881c4bb := by decide +kernel
theorem xor_back (x y : UInt32) : x ^^^ y ^^^ y = x := by rw [UInt32.xor_assoc, UInt32.xor_self, UInt32.xor_zero]
theorem add_back (x y : UInt32) : x + y - y = x := UInt32.add_sub_cancel x y
/-- a quarter of the words at four places -/
def q4 (v : List UInt32) (a b c d : Nat) : List UInt32 :=
  (((v.set a (qr (v.getD a 0) (v.getD b 0) (v.getD c 0) (v.getD d 0)).a).set b (qr (v.getD a 0) (v.getD b 0) (v.getD c 0) (v.getD d 0)).b).set c (qr (v.getD a 0) (v.getD b 0) (v.getD c 0) (v.getD d 0)).c).set d (qr (v.getD a 0) (v.getD b 0) (v.getD c 0) (v.getD d 0)).d
theorem q4_length (v : List UInt32) (a b c d : Nat) : (q4 v a b c d).length = v.length := by simp [q4]
/-- a double round -/
def dbl (v : List UInt32) : List UInt32 := q4 (q4 (q4 (q4 (q4 (q4 (q4 (q4 v 0 4 8 12) 1 5 9 13) 2 6 10 14) 3 7 11 15) 0 5 10 15) 1 6 11 12) 2 7 8 13) 3 4 9 14
theorem dbl_length (v : List UInt32) : (dbl v).length = v.length := by simp [dbl, q4_length]
def dblN (v : List UInt32) : Nat → List UInt32
  | 0 => v
  | k + 1 => dbl (dblN v k)
theorem dblN_length (v : List UInt32) (k : Nat) : (dblN v k).length = v.length := by
  induction k with
  | zero => rfl
  | succ k ih => rw [dblN, dbl_length, ih]
/-- the bytes of a word, the lowest first -/
def leB (x : UInt32) : List UInt8 := [UInt8.ofNat x.toNat, UInt8.ofNat (x.toNat / 256), UInt8.ofNat (x.toNat / 65536), UInt8.ofNat (x.toNat / 16777216)]
theorem leB_length (x : UInt32) : (leB x).length = 4 := rfl
/-- the word of four bytes, the lowest first -/
theorem leB_word (x : UInt32) : wordOf ((leB x).getD 3 0) ((leB x).getD 2 0) ((leB x).getD 1 0) ((leB x).getD 0 0) = x := by
  apply UInt32.toNat_inj.1
  have := lt32 x
  rw [wordOf_toNat]
  show (((UInt8.ofNat (x.toNat / 16777216)).toNat * 256 + (UInt8.ofNat (x.toNat / 65536)).toNat) * 256 + (UInt8.ofNat (x.toNat / 256)).toNat) * 256 + (UInt8.ofNat x.toNat).toNat = x.toNat
  rw [UInt8.toNat_ofNat', UInt8.toNat_ofNat', UInt8.toNat_ofNat', UInt8.toNat_ofNat']
  omega
/-- words added to words -/
def addL (a b : List UInt32) : List UInt32 := List.zipWith (· + ·) a b
/-- the bytes of words -/
def bytesL (l : List UInt32) : List UInt8 := l.flatMap leB
theorem bytesL_length (l : List UInt32) : (bytesL l).length = 4 * l.length := by
  unfold bytesL
  induction l with
  | nil => rfl
  | cons x l ih => rw [List.flatMap_cons, List.length_append, ih, leB_length, List.length_cons]; omega
/-- the block of a first state -/
def blkB (v : List UInt32) : List UInt8 := bytesL (addL (dblN v 10) v)
theorem blkB_length (v : List UInt32) (h : v.length = 16) : (blkB v).length = 64 := by
  unfold blkB addL
  rw [bytesL_length, List.length_zipWith, dblN_length, h]
  rfl
/-- the i-th word of a text, its lowest byte first -/
def wAt (t : List UInt8) (i : Nat) : UInt32 := wordOf (t.getD (4 * i + 3) 0) (t.getD (4 * i + 2) 0) (t.getD (4 * i + 1) 0) (t.getD (4 * i) 0)
def ahead16 : List UInt8 := [101, 120, 112, 97, 110, 100, 32, 51, 50, 45, 98, 121, 116, 101, 32, 107]
def txt (k : List UInt8) (c : UInt32) (n : List UInt8) : List UInt8 := ahead16 ++ k ++ leB c ++ n
/-- the first state -/
def fst0 (k : List UInt8) (c : UInt32) (n : List UInt8) : List UInt32 := (List.range 16).map (wAt (txt k c n))
theorem fst0_length (k : List UInt8) (c : UInt32) (n : List UInt8) : (fst0 k c n).length = 16 := by simp [fst0]
theorem fst0_get (k : List UInt8) (c : UInt32) (n : List UInt8) (i : Nat) (h : i < 16) : (fst0 k c n).getD i 0 = wAt (txt k c n) i := by
  simp [fst0, List.getD_eq_getElem?_getD, h]
theorem txt_ahead (k : List UInt8) (hk : k.length = 32) (c : UInt32) (n : List UInt8) (i : Nat) (h : i < 48) : (txt k c n).getD i 0 = (ahead16 ++ k).getD i 0 := by
  unfold txt
  have h1 : (ahead16 ++ k).length = 48 := by rw [List.length_append, hk]; rfl
  rw [List.getD_eq_getElem?_getD, List.getD_eq_getElem?_getD, List.append_assoc, List.getElem?_append_left (by omega)]
theorem txt_count (k : List UInt8) (hk : k.length = 32) (c : UInt32) (n : List UInt8) (i : Nat) (h : i < 4) : (txt k c n).getD (48 + i) 0 = (leB c).getD i 0 := by
  unfold txt
  have h1 : (ahead16 ++ k).length = 48 := by rw [List.length_append, hk]; rfl
  rw [List.getD_eq_getElem?_getD, List.getD_eq_getElem?_getD, List.append_assoc, List.getElem?_append_right (by omega), h1, show 48 + i - 48 = i from by omega, List.getElem?_append_left (by rw [leB_length]; exact h)]
theorem txt_nonce (k : List UInt8) (hk : k.length = 32) (c : UInt32) (n : List UInt8) (i : Nat) : (txt k c n).getD (52 + i) 0 = n.getD i 0 := by
  unfold txt
  have h1 : (ahead16 ++ k ++ leB c).length = 52 := by rw [List.length_append, List.length_append, hk, leB_length]; rfl
  rw [List.getD_eq_getElem?_getD, List.getD_eq_getElem?_getD, List.getElem?_append_right (by omega), h1, show 52 + i - 52 = i from by omega]
/-- the count of a state grown -/
def cnt (v : List UInt32) (i : Nat) : List UInt32 := v.set 12 (v.getD 12 0 + UInt32.ofNat i)
theorem cnt_length (v : List UInt32) (i : Nat) : (cnt v i).length = v.length := by simp [cnt]
theorem cnt_get (v : List UInt32) (hv : v.length = 16) (i : Nat) : (cnt v i).getD 12 0 = v.getD 12 0 + UInt32.ofNat i := by
  unfold cnt
  rw [List.getD_eq_getElem?_getD (l := v.set _ _), List.getElem?_set_self (by omega)]; rfl
theorem cnt_cnt (v : List UInt32) (hv : v.length = 16) (i j : Nat) : cnt (cnt v i) j = cnt v (i + j) := by
  have h := cnt_get v hv i
  unfold cnt at h ⊢
  rw [h, List.set_set, UInt32.add_assoc, ← UInt32.ofNat_add]
theorem cnt_zero (v : List UInt32) (_hv : v.length = 16) : cnt v 0 = v := by
  unfold cnt
  apply List.ext_getElem (by simp)
  intro i h1 h2
  rw [List.getElem_set]
  by_cases h : 12 = i
  · subst h
    rw [if_pos rfl]
    rw [List.getD_eq_getElem?_getD, List.getElem?_eq_getElem (by omega)]
    show v[12] + UInt32.ofNat 0 = v[12]
    exact UInt32.add_zero _
  · rw [if_neg h]
theorem fst0_cnt (k : List UInt8) (hk : k.length = 32) (c : UInt32) (n : List UInt8) (i : Nat) : fst0 k (c + UInt32.ofNat i) n = cnt (fst0 k c n) i := by
  have hw : ∀ c, wAt (txt k c n) 12 = c := fun c => by
    have e := leB_word c
    unfold wAt
    rw [show 4 * 12 + 3 = 48 + 3 from rfl, show 4 * 12 + 2 = 48 + 2 from rfl, show 4 * 12 + 1 = 48 + 1 from rfl, show 4 * 12 = 48 + 0 from rfl, txt_count k hk c n 3 (by omega), txt_count k hk c n 2 (by omega), txt_count k hk c n 1 (by omega), txt_count k hk c n 0 (by omega)]
    exact e
  have hrest : ∀ c c' j, j < 16 → j ≠ 12 → wAt (txt k c n) j = wAt (txt k c' n) j := fun c c' j hj hne => by
    unfold wAt
    rcases Nat.lt_or_ge j 12 with h | h
    · rw [txt_ahead k hk c n _ (by omega), txt_ahead k hk c n _ (by omega), txt_ahead k hk c n _ (by omega), txt_ahead k hk c n _ (by omega), txt_ahead k hk c' n _ (by omega), txt_ahead k hk c' n _ (by omega), txt_ahead k hk c' n _ (by omega), txt_ahead k hk c' n _ (by omega)]
    · obtain ⟨m, rfl⟩ : ∃ m, j = 13 + m := ⟨j - 13, by omega⟩
      rw [show 4 * (13 + m) + 3 = 52 + (4 * m + 3) from by omega, show 4 * (13 + m) + 2 = 52 + (4 * m + 2) from by omega, show 4 * (13 + m) + 1 = 52 + (4 * m + 1) from by omega, show 4 * (13 + m) = 52 + (4 * m) from by omega]
      simp only [txt_nonce k hk]
  unfold cnt
  rw [fst0_get k c n 12 (by omega), hw]
  apply List.ext_getElem (by simp [fst0])
  intro j h1 h2
  have hj : j < 16 := by simpa [fst0] using h1
  rw [List.getElem_set]
  by_cases h : 12 = j
  · subst h
    rw [if_pos rfl]
    simp only [fst0, List.getElem_map, List.getElem_range, hw]
  · rw [if_neg h]
    simp only [fst0, List.getElem_map, List.getElem_range]
    exact hrest _ _ j hj (by omega)
/-- the i-th byte of the stream -/
def kb (v : List UInt32) (i : Nat) : UInt8 := (blkB (cnt v (i / 64))).getD (i % 64) 0
/-- a text, masked as far as m bytes -/
def mTo (v : List UInt32) (s : List UInt8) (m : Nat) : List UInt8 := (List.range s.length).map fun i => if i < m then s.getD i 0 ^^^ kb v i else s.getD i 0
def maskL (v : List UInt32) (s : List UInt8) : List UInt8 := mTo v s s.length
theorem mTo_length (v : List UInt32) (s : List UInt8) (m : Nat) : (mTo v s m).length = s.length := by simp [mTo]
theorem maskL_length (v : List UInt32) (s : List UInt8) : (maskL v s).length = s.length := mTo_length _ _ _
theorem mTo_get (v : List UInt32) (s : List UInt8) (m i : Nat) (h : i < s.length) : (mTo v s m).getD i 0 = if i < m then s.getD i 0 ^^^ kb v i else s.getD i 0 := by
  simp [mTo, List.getD_eq_getElem?_getD, h]
theorem ext_getD (a b : List UInt8) (hl : a.length = b.length) (h : ∀ i, i < a.length → a.getD i 0 = b.getD i 0) : a = b := by
  apply List.ext_getElem hl
  intro i h1 h2
  have := h i h1
  simpa only [List.getD_eq_getElem?_getD, List.getElem?_eq_getElem h1, List.getElem?_eq_getElem h2, Option.getD_some] using this
theorem mTo_zero (v : List UInt32) (s : List UInt8) : mTo v s 0 = s :=
  ext_getD _ _ (mTo_length _ _ _) (fun i hi => by rw [mTo_length] at hi; rw [mTo_get _ _ _ _ hi, if_neg (by omega)])
theorem maskL_get (v : List UInt32) (s : List UInt8) (i : Nat) (h : i < s.length) : (maskL v s).getD i 0 = s.getD i 0 ^^^ kb v i := by
  unfold maskL; rw [mTo_get _ _ _ _ h, if_pos h]
theorem mTo_over (v : List UInt32) (s : List UInt8) (m : Nat) (h : s.length ≤ m) : mTo v s m = maskL v s :=
  ext_getD _ _ (by rw [mTo_length, maskL_length]) (fun i hi => by rw [mTo_length] at hi; rw [mTo_get _ _ _ _ hi, maskL_get _ _ _ hi, if_pos (by omega)])
theorem xor8_back (x y : UInt8) : x ^^^ y ^^^ y = x := by rw [UInt8.xor_assoc, UInt8.xor_self, UInt8.xor_zero]
/-- what is masked twice is as it was -/
theorem mask_twice (v : List UInt32) (s : List UInt8) : maskL v (maskL v s) = s :=
  ext_getD _ _ (by rw [maskL_length, maskL_length]) (fun i hi => by
    rw [maskL_length, maskL_length] at hi
    rw [maskL_get _ _ _ (by rw [maskL_length]; exact hi), maskL_get _ _ _ hi, xor8_back])
theorem kb_cnt (v : List UInt32) (hv : v.length = 16) (a i : Nat) : kb (cnt v a) i = kb v (64 * a + i) := by
  unfold kb
  rw [cnt_cnt v hv, show (64 * a + i) / 64 = a + i / 64 from by omega, show (64 * a + i) % 64 = i % 64 from by omega]
/-- a text masked in two parts, at a whole block -/
theorem mask_parts (v : List UInt32) (hv : v.length = 16) (s t : List UInt8) (a : Nat) (hs : s.length = 64 * a) : maskL v (s ++ t) = maskL v s ++ maskL (cnt v a) t := by
  refine ext_getD _ _ (by rw [maskL_length, List.length_append, List.length_append, maskL_length, maskL_length]) (fun i hi => ?_)
  rw [maskL_length] at hi
  rw [maskL_get _ _ _ hi]
  rw [List.length_append] at hi
  rcases Nat.lt_or_ge i s.length with h | h
  · have e1 : (s ++ t).getD i 0 = s.getD i 0 := by rw [List.getD_eq_getElem?_getD, List.getD_eq_getElem?_getD, List.getElem?_append_left h]
    have e2 : (maskL v s ++ maskL (cnt v a) t).getD i 0 = (maskL v s).getD i 0 := by rw [List.getD_eq_getElem?_getD, List.getD_eq_getElem?_getD, List.getElem?_append_left (by rw [maskL_length]; exact h)]
    rw [e1, e2, maskL_get _ _ _ h]
  · have e1 : (s ++ t).getD i 0 = t.getD (i - s.length) 0 := by rw [List.getD_eq_getElem?_getD, List.getD_eq_getElem?_getD, List.getElem?_append_right h]
    have e2 : (maskL v s ++ maskL (cnt v a) t).getD i 0 = (maskL (cnt v a) t).getD (i - s.length) 0 := by rw [List.getD_eq_getElem?_getD, List.getD_eq_getElem?_getD, List.getElem?_append_right (by rw [maskL_length]; exact h), maskL_length]
    rw [e1, e2, maskL_get _ _ _ (by omega), kb_cnt v hv, show 64 * a + (i - s.length) = i from by omega]
theorem mask_zeros (v : List UInt32) (hv : v.length = 16) : maskL v (List.replicate 64 0) = blkB v := by
  have hb := blkB_length v hv
  refine ext_getD _ _ (by rw [maskL_length, hb, List.length_replicate]) (fun i hi => ?_)
  rw [maskL_length] at hi
  rw [maskL_get _ _ _ hi]
  rw [List.length_replicate] at hi
  have e : (List.replicate 64 (0 : UInt8)).getD i 0 = 0 := by rw [List.getD_eq_getElem?_getD, List.getElem?_replicate]; split <;> rfl
  rw [e, UInt8.zero_xor]
  unfold kb
  rw [Nat.div_eq_of_lt hi, Nat.mod_eq_of_lt hi, cnt_zero v hv]
/-- blocks, one behind the other -/
def blksB (v : List UInt32) : Nat → List UInt8
  | 0 => []
  | m + 1 => blksB v m ++ blkB (cnt v m)
theorem mask_blocks (v : List UInt32) (hv : v.length = 16) (m : Nat) : maskL v (List.replicate (64 * m) 0) = blksB v m := by
  induction m with
  | zero => rfl
  | succ m ih =>
    rw [show 64 * (m + 1) = 64 * m + 64 from by omega, ← List.replicate_append_replicate, mask_parts v hv _ _ m (by rw [List.length_replicate]), ih, mask_zeros _ (by rw [cnt_length]; exact hv)]
    rfl
/-- k bytes from a place on, masked by a block -/
def xorAt (l : List UInt8) (o k : Nat) (b : List UInt8) : List UInt8 := (List.range l.length).map fun i => if o ≤ i ∧ i < o + k then l.getD i 0 ^^^ b.getD (i - o) 0 else l.getD i 0
theorem xorAt_length (l : List UInt8) (o k : Nat) (b : List UInt8) : (xorAt l o k b).length = l.length := by simp [xorAt]
theorem xorAt_get (l : List UInt8) (o k : Nat) (b : List UInt8) (i : Nat) (h : i < l.length) : (xorAt l o k b).getD i 0 = if o ≤ i ∧ i < o + k then l.getD i 0 ^^^ b.getD (i - o) 0 else l.getD i 0 := by
  simp [xorAt, List.getD_eq_getElem?_getD, h]
theorem xorAt_zero (l : List UInt8) (o : Nat) (b : List UInt8) : xorAt l o 0 b = l :=
  ext_getD _ _ (xorAt_length _ _ _ _) (fun i hi => by rw [xorAt_length] at hi; rw [xorAt_get _ _ _ _ _ hi, if_neg (by omega)])
theorem getD_set (l : List UInt8) (j i : Nat) (x : UInt8) (h : j < l.length) : (l.set j x).getD i 0 = if j = i then x else l.getD i 0 := by
  rw [List.getD_eq_getElem?_getD, List.getD_eq_getElem?_getD, List.getElem?_set]
  by_cases hj : j = i
  · rw [if_pos hj, if_pos hj, if_pos (by omega)]; rfl
  · rw [if_neg hj, if_neg hj]
theorem xorAt_set (l : List UInt8) (o k : Nat) (b : List UInt8) (h : o + k < l.length) : (xorAt l o k b).set (o + k) (l.getD (o + k) 0 ^^^ b.getD k 0) = xorAt l o (k + 1) b := by
  refine ext_getD _ _ (by rw [List.length_set, xorAt_length, xorAt_length]) (fun i hi => ?_)
  rw [List.length_set, xorAt_length] at hi
  rw [getD_set _ _ _ _ (by rw [xorAt_length]; exact h), xorAt_get _ _ _ _ _ hi, xorAt_get _ _ _ _ _ hi]
  by_cases e : o + k = i
  · subst e
    rw [if_pos rfl, if_pos (by omega), Nat.add_sub_cancel_left]
  · rw [if_neg e]
    by_cases h2 : o ≤ i ∧ i < o + k
    · rw [if_pos h2, if_pos (by omega)]
    · rw [if_neg h2, if_neg (by omega)]
theorem xorAt_mTo (v : List UInt32) (s : List UInt8) (j k : Nat) (hk : k ≤ 64) (_h : 64 * j + k ≤ s.length) : xorAt (mTo v s (64 * j)) (64 * j) k (blkB (cnt v j)) = mTo v s (64 * j + k) := by
  refine ext_getD _ _ (by rw [xorAt_length, mTo_length, mTo_length]) (fun i hi => ?_)
  rw [xorAt_length] at hi
  rw [xorAt_get _ _ _ _ _ hi]
  rw [mTo_length] at hi
  rw [mTo_get _ _ _ _ hi, mTo_get _ _ _ _ hi]
  by_cases h1 : i < 64 * j
  · rw [if_pos h1, if_neg (by omega), if_pos (by omega)]
  · rw [if_neg h1]
    by_cases h2 : i < 64 * j + k
    · rw [if_pos (by omega), if_pos h2]
      unfold kb
      rw [show i / 64 = j from by omega, show i % 64 = i - 64 * j from by omega]
    · rw [if_neg (by omega), if_neg h2]
end Go.Proofs.Ytfhjokbbaoldiaa
