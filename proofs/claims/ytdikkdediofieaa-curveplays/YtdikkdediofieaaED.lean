/- curve.folded: walked. -/
import Derived.Test.YtdikkdediofieaaEC
namespace Go.Proofs.Ytdikkdediofieaa
open Go.RowKit
def z8w : Array Value := us (List.replicate 8 0)
theorem info8 (l : List Nat) (hl : l.length = 8) : (Try.prog.info? 53).map (·.size) = some (us l).size := by
  rw [us_size, hl]; exact (by kernel_rfl : (Try.prog.info? 53).map (·.size) = some 8)
theorem z8w_size (l : List Nat) (hl : l.length = 8) : z8w.size = (us l).size := by unfold z8w; rw [us_size, us_size, hl]; rfl
theorem pad_set (xs : List Nat) (n j : Nat) (hj : j < xs.length) (hn : j < n) : (xs.take j ++ List.replicate (n - j) 0).set j (xs.getD j 0) = xs.take (j + 1) ++ List.replicate (n - (j + 1)) 0 := by
  have hl : (xs.take j).length = j := by rw [List.length_take]; omega
  rw [List.set_append_right _ _ (by omega), hl, Nat.sub_self, show n - j = (n - (j + 1)) + 1 from by omega, List.replicate_succ, List.set_cons_zero, List.take_succ_eq_append_getElem hj, List.getD_eq_getElem?_getD, List.getElem?_eq_getElem hj]
  simp only [Option.getD_some, List.append_assoc, List.cons_append, List.nil_append]
theorem pad_length (xs : List Nat) (n j : Nat) (hj : j ≤ xs.length) (hn : j ≤ n) : (xs.take j ++ List.replicate (n - j) 0).length = n := by
  rw [List.length_append, List.length_take, List.length_replicate]; omega
/-- a word of what lies at 2 to the 255 and above -/
def hiW (a b : Nat) : Nat := a / 9223372036854775808 + b % 9223372036854775808 * 2
theorem or_shift (a b : Nat) (ha : a < 18446744073709551616) : bits .or .u64 ((a : Int) / 9223372036854775808) (IntKind.u64.wrap ((b : Int) * 2)) = ((hiW a b : Nat) : Int) := by
  rw [IntKind.wrap_u64]
  have e1 : (a : Int) / 9223372036854775808 = ((a / 9223372036854775808 : Nat) : Int) := by omega
  have e2 : (b : Int) * 2 % 18446744073709551616 = ((b % 9223372036854775808 * 2 : Nat) : Int) := by omega
  rw [e1, e2, u64_or_nat _ _ (by omega) (by omega), Nat.or_comm, nat_join 1 _ _ (by omega) (by omega)]
  unfold hiW
  congr 1
  omega
theorem or_top (k x : Nat) (hk : k < 9223372036854775808) (hx : x < 18446744073709551616) : bits .or .u64 ((k : Int) * 2) ((x : Int) / 9223372036854775808) = ((2 * k + x / 9223372036854775808 : Nat) : Int) := by
  have e1 : (x : Int) / 9223372036854775808 = ((x / 9223372036854775808 : Nat) : Int) := by omega
  have e2 : (k : Int) * 2 = ((2 * k : Nat) : Int) := by omega
  rw [e1, e2, u64_or_nat _ _ (by omega) (by omega), nat_join 1 _ _ (by omega) (by omega)]
def hiL (l : List Nat) : List Nat := [hiW (l.getD 3 0) (l.getD 4 0), hiW (l.getD 4 0) (l.getD 5 0), hiW (l.getD 5 0) (l.getD 6 0), hiW (l.getD 6 0) (l.getD 7 0)]
theorem hiL_get (l : List Nat) (j : Nat) (h : j < 4) : (hiL l).getD j 0 = hiW (l.getD (j + 3) 0) (l.getD (j + 4) 0) := by
  have : j = 0 ∨ j = 1 ∨ j = 2 ∨ j = 3 := by omega
  unfold hiL
  rcases this with rfl | rfl | rfl | rfl <;> simp only [List.getD_cons_zero, List.getD_cons_succ, Nat.zero_add, Nat.reduceAdd]
theorem hiL_length (l : List Nat) : (hiL l).length = 4 := rfl
/-- the lowest four words -/
def loL (l : List Nat) : List Nat := [l.getD 0 0, l.getD 1 0, l.getD 2 0, l.getD 3 0]
theorem loL_get (l : List Nat) (j : Nat) (h : j < 4) : (loL l).getD j 0 = l.getD j 0 := by
  have : j = 0 ∨ j = 1 ∨ j = 2 ∨ j = 3 := by omega
  unfold loL
  rcases this with rfl | rfl | rfl | rfl <;> simp only [List.getD_cons_zero, List.getD_cons_succ]
theorem loL_length (l : List Nat) : (loL l).length = 4 := rfl
theorem hi_one (N : Nat) : N / 9223372036854775808 % 18446744073709551616 = hiW (N % 18446744073709551616) (N / 18446744073709551616 % 18446744073709551616) := by unfold hiW; omega
theorem hi_parts (M : Nat) : dg 18446744073709551616 (M / 9223372036854775808) 4 = [hiW (M % 18446744073709551616) (M / 18446744073709551616 % 18446744073709551616), hiW (M / 18446744073709551616 % 18446744073709551616) (M / 18446744073709551616 / 18446744073709551616 % 18446744073709551616), hiW (M / 18446744073709551616 / 18446744073709551616 % 18446744073709551616) (M / 18446744073709551616 / 18446744073709551616 / 18446744073709551616 % 18446744073709551616), hiW (M / 18446744073709551616 / 18446744073709551616 / 18446744073709551616 % 18446744073709551616) (M / 18446744073709551616 / 18446744073709551616 / 18446744073709551616 / 18446744073709551616 % 18446744073709551616)] := by
  have hc : ∀ a : Nat, a / 9223372036854775808 / 18446744073709551616 = a / 18446744073709551616 / 9223372036854775808 := fun a => by rw [Nat.div_div_eq_div_mul, Nat.div_div_eq_div_mul, Nat.mul_comm]
  rw [dg4, hc, hc, hc, hi_one, hi_one, hi_one, hi_one]
theorem fold_parts (L : Nat) : (loL (dg 18446744073709551616 L 8)).set 3 ((loL (dg 18446744073709551616 L 8)).getD 3 0 % 9223372036854775808) = dg 18446744073709551616 (L % 57896044618658097711785492504343953926634992332820282019728792003956564819968) 4 ∧ hiL (dg 18446744073709551616 L 8) = dg 18446744073709551616 (L / 57896044618658097711785492504343953926634992332820282019728792003956564819968) 4 := by
  constructor
  · rw [low255]
    simp only [loL, dg, List.getD_cons_zero, List.getD_cons_succ, List.set_cons_zero, List.set_cons_succ]
  · have e : L / 57896044618658097711785492504343953926634992332820282019728792003956564819968 = L / 18446744073709551616 / 18446744073709551616 / 18446744073709551616 / 9223372036854775808 := by simp only [Nat.div_div_eq_div_mul, Nat.reduceMul]
    rw [e, hi_parts]
    simp only [hiL, dg, List.getD_cons_zero, List.getD_cons_succ]
/-- what a number is folded to at first, and then -/
def fld1 (L : Nat) : Nat := L % 57896044618658097711785492504343953926634992332820282019728792003956564819968 + 19 * (L / 57896044618658097711785492504343953926634992332820282019728792003956564819968)
def fld (L : Nat) : Nat := fld1 L % 57896044618658097711785492504343953926634992332820282019728792003956564819968 + 19 * (fld1 L / 57896044618658097711785492504343953926634992332820282019728792003956564819968)
theorem fld1_lt (L : Nat) (hL : L < 3351951982485649274893506249551461531869841455148098344430890360930441007518386744200468574541725856922507964546621512713438470702986642486608412251521024) : fld1 L < 20 * 57896044618658097711785492504343953926634992332820282019728792003956564819968 := by
  unfold fld1
  have h1 : L / 57896044618658097711785492504343953926634992332820282019728792003956564819968 < 57896044618658097711785492504343953926634992332820282019728792003956564819968 := Nat.div_lt_of_lt_mul (Nat.lt_of_lt_of_le hL (by decide))
  have h2 : L % 57896044618658097711785492504343953926634992332820282019728792003956564819968 < 57896044618658097711785492504343953926634992332820282019728792003956564819968 := Nat.mod_lt _ (by omega)
  omega
theorem fld_lt (L : Nat) (hL : L < 3351951982485649274893506249551461531869841455148098344430890360930441007518386744200468574541725856922507964546621512713438470702986642486608412251521024) : fld L < 115792089237316195423570985008687907853269984665640564039457584007913129639936 := by
  unfold fld
  have := fld1_lt L hL
  omega
theorem fold_mod (a : Nat) : (a % 57896044618658097711785492504343953926634992332820282019728792003956564819968 + 19 * (a / 57896044618658097711785492504343953926634992332820282019728792003956564819968)) % 57896044618658097711785492504343953926634992332820282019728792003956564819949 = a % 57896044618658097711785492504343953926634992332820282019728792003956564819949 := by
  have h : a = 57896044618658097711785492504343953926634992332820282019728792003956564819968 * (a / 57896044618658097711785492504343953926634992332820282019728792003956564819968) + a % 57896044618658097711785492504343953926634992332820282019728792003956564819968 := (Nat.div_add_mod a _).symm
  generalize a / 57896044618658097711785492504343953926634992332820282019728792003956564819968 = q at *
  generalize a % 57896044618658097711785492504343953926634992332820282019728792003956564819968 = r at *
  have e : a = (r + 19 * q) + 57896044618658097711785492504343953926634992332820282019728792003956564819949 * q := by omega
  rw [e, Nat.add_mul_mod_self_left]
theorem fld_mod (L : Nat) : fld L % 57896044618658097711785492504343953926634992332820282019728792003956564819949 = L % 57896044618658097711785492504343953926634992332820282019728792003956564819949 := by
  unfold fld
  rw [fold_mod]
  unfold fld1
  rw [fold_mod]
/-- what memory holds in the midst of folding -/
def FoldEnv (w : World) (l a b : List Nat) (W : World) : Prop :=
  Has W w.heap.size 53 (us l) ∧ Has W (w.heap.size + 1) 38 z4 ∧ Has W (w.heap.size + 1 + 1) 38 (us a) ∧ Has W (w.heap.size + 1 + 1 + 1) 38 (us b) ∧ Below w.heap.size w W
section
variable {w : World} {l a b : List Nat} {W W' : World}
theorem FoldEnv.drew (h : FoldEnv w l a b W) : FoldEnv w l a b W.drew := ⟨h.1, h.2.1, h.2.2.1, h.2.2.2.1, h.2.2.2.2.drew⟩
theorem FoldEnv.putA (h : FoldEnv w l a b W) (j s : Nat) : FoldEnv w l (a.set j s) b (W.setCell ⟨w.heap.size + 1 + 1, j, none⟩ (U64 s)) :=
  ⟨h.1.other (by show w.heap.size ≠ w.heap.size + 1 + 1; omega) _, h.2.1.other (by show w.heap.size + 1 ≠ w.heap.size + 1 + 1; omega) _, h.2.2.1.setU j s, h.2.2.2.1.other (by show w.heap.size + 1 + 1 + 1 ≠ w.heap.size + 1 + 1; omega) _,
    h.2.2.2.2.setCell (by show w.heap.size ≤ w.heap.size + 1 + 1; omega) _⟩
theorem FoldEnv.putB (h : FoldEnv w l a b W) (j s : Nat) : FoldEnv w l a (b.set j s) (W.setCell ⟨w.heap.size + 1 + 1 + 1, j, none⟩ (U64 s)) :=
  ⟨h.1.other (by show w.heap.size ≠ w.heap.size + 1 + 1 + 1; omega) _, h.2.1.other (by show w.heap.size + 1 ≠ w.heap.size + 1 + 1 + 1; omega) _, h.2.2.1.other (by show w.heap.size + 1 + 1 ≠ w.heap.size + 1 + 1 + 1; omega) _, h.2.2.2.1.setU j s,
    h.2.2.2.2.setCell (by show w.heap.size ≤ w.heap.size + 1 + 1 + 1; omega) _⟩
theorem FoldEnv.step (h : FoldEnv w l a b W) (hb : Below W.heap.size W W') : FoldEnv w l a b W' :=
  ⟨h.1.below hb h.1.lt, h.2.1.below hb h.2.1.lt, h.2.2.1.below hb h.2.2.1.lt, h.2.2.2.1.below hb h.2.2.2.1.lt, h.2.2.2.2.trans (hb.mono h.2.2.2.2.size)⟩
end
/-- the sum of low words and 19 times high ones, a round -/
theorem fold_round (o lo hi : List Nat) (j k s : Nat) (hj : j < 4) (lo4 : o.length = 4) (ll : lo.length = 4) (lh : hi.length = 4) (hn : num 18446744073709551616 (o.take j) + k * 18446744073709551616 ^ j = num 18446744073709551616 (lo.take j) + 19 * num 18446744073709551616 (hi.take j))
    (hd : o.drop j = lo.drop j) (hs : s = hi.getD j 0 * 19 + o.getD j 0 + k) :
    num 18446744073709551616 ((o.set j (s % 18446744073709551616)).take (j + 1)) + s / 18446744073709551616 * 18446744073709551616 ^ (j + 1) = num 18446744073709551616 (lo.take (j + 1)) + 19 * num 18446744073709551616 (hi.take (j + 1)) := by
  have hst := step_add 18446744073709551616 (num 18446744073709551616 (o.take j)) _ k j s hn (hi.getD j 0 * 19 + o.getD j 0) hs
  have hox := getD_of_drop o lo j j hd (Nat.le_refl _)
  rw [num_take_set 18446744073709551616 o j _ (by omega), num_take_succ 18446744073709551616 lo j (by omega), num_take_succ 18446744073709551616 hi j (by omega), hst, hox, Nat.add_mul, Nat.mul_add, Nat.mul_right_comm, Nat.mul_comm _ 19]
  omega
/-- the sum is done -/
theorem fold_done (o : List Nat) (k F : Nat) (lo4 : o.length = 4) (do' : Dig 18446744073709551616 o) (hn : num 18446744073709551616 o + k * 18446744073709551616 ^ 4 = F) (hF : F < 20 * 57896044618658097711785492504343953926634992332820282019728792003956564819968) :
    o.set 3 (o.getD 3 0 % 9223372036854775808) = dg 18446744073709551616 (F % 57896044618658097711785492504343953926634992332820282019728792003956564819968) 4 ∧ 2 * k + o.getD 3 0 / 9223372036854775808 = F / 57896044618658097711785492504343953926634992332820282019728792003956564819968 ∧ k ≤ 9 := by
  have e : (dg 18446744073709551616 F 4) = o := by
    refine (dg_of (by omega) do' lo4 ?_).symm
    have hb := num_lt 18446744073709551616 o do'
    rw [lo4] at hb
    rw [← hn, Nat.add_mul_mod_self_right, Nat.mod_eq_of_lt hb]
  have hb := num_lt 18446744073709551616 o do'
  have g3 := getD_num 18446744073709551616 o do' 3 (by omega)
  rw [lo4] at hb
  have e4 : (18446744073709551616 : Nat) ^ 4 = 115792089237316195423570985008687907853269984665640564039457584007913129639936 := by decide
  have e3 : (18446744073709551616 : Nat) ^ 3 * 9223372036854775808 = 57896044618658097711785492504343953926634992332820282019728792003956564819968 := by decide
  have e34 : (18446744073709551616 : Nat) ^ 3 * 18446744073709551616 = 115792089237316195423570985008687907853269984665640564039457584007913129639936 := by decide
  rw [e4] at hn hb
  have hk : k ≤ 9 := by omega
  refine ⟨?_, ?_, hk⟩
  · rw [low255, ← e]
    simp only [dg, List.getD_cons_zero, List.getD_cons_succ, List.set_cons_zero, List.set_cons_succ]
  · rw [g3, Nat.mod_eq_of_lt (Nat.div_lt_of_lt_mul (by rw [e34]; exact hb)), Nat.div_div_eq_div_mul, e3]
    omega
end Go.Proofs.Ytdikkdediofieaa
