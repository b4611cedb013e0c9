/- poly.widened and poly.folded: walked. -/
import Derived.Test.YtfhjokbbaoldiaaPD
namespace Go.Proofs.Ytfhjokbbaoldiaa
open Go.RowKit
theorem pad_set (xs : List Nat) (n j : Nat) (hj : j < xs.length) (hn : j < n) : (xs.take j ++ List.replicate (n - j) 0).set j (xs.getD j 0) = xs.take (j + 1) ++ List.replicate (n - (j + 1)) 0 := by
  have hl : (xs.take j).length = j := by rw [List.length_take]; omega
  rw [List.set_append_right _ _ (by omega), hl, Nat.sub_self, show n - j = (n - (j + 1)) + 1 from by omega, List.replicate_succ, List.set_cons_zero, List.take_succ_eq_append_getElem hj, List.getD_eq_getElem?_getD, List.getElem?_eq_getElem hj]
  simp only [Option.getD_some, List.append_assoc, List.cons_append, List.nil_append]
theorem pad_length (xs : List Nat) (n j : Nat) (hj : j ≤ xs.length) (hn : j ≤ n) : (xs.take j ++ List.replicate (n - j) 0).length = n := by
  rw [List.length_append, List.length_take, List.length_replicate]; omega
set_option maxHeartbeats 1000000 in
theorem widened_any (X : Nat) (hX : X < 18446744073709551616 ^ 3) (w : World) :
    Calls Try.prog 51 #[.agg (us (dg 18446744073709551616 X 3))] w fun e w' => e = .returned (.agg (us (dg 18446744073709551616 X 6))) ∧ Below w.heap.size w w' := by
  obtain ⟨xs, hxs⟩ : ∃ xs, xs = dg 18446744073709551616 X 3 := ⟨_, rfl⟩
  have lx : xs.length = 3 := by rw [hxs, dg_length]
  have hR : xs.take 3 ++ List.replicate (6 - 3) 0 = dg 18446744073709551616 X 6 := by
    refine dg_of (by omega) ?_ (pad_length xs 6 3 (by omega) (by omega)) ?_
    · exact ((by rw [hxs]; exact dg_dig _ _ _ (by omega) : Dig 18446744073709551616 xs).take 3).append (Dig.zeros _ (by omega) _)
    · rw [num_append, num_zeros, Nat.mul_zero, Nat.add_zero, List.take_of_length_le (by omega), hxs, num_dg, Nat.mod_eq_of_lt hX, Nat.mod_eq_of_lt]
      refine Nat.lt_trans hX (by decide)
  rw [← hxs, ← hR]
  obtain ⟨R, hRR⟩ : ∃ R, R = xs.take 3 ++ List.replicate (6 - 3) 0 := ⟨_, rfl⟩
  rw [← hRR]
  have HR := Lib.hid hRR
  clear hRR
  have hE0 := three_new w (us xs) z6 (us (xs.take 0 ++ List.replicate (6 - 0) 0)) 58 63 63
  clear hxs hR hX
  go_enter Try.func51, Try.ntmps51
  go_upto_region 2 with fail
  change Code.wp _ _ _ _ (((w.alloc (.cells (us xs) 58)).alloc (.cells z6 63)).alloc (.cells (us (xs.take 0 ++ List.replicate (6 - 0) 0)) 63))
  generalize ((w.alloc (.cells (us xs) 58)).alloc (.cells z6 63)).alloc (.cells (us (xs.take 0 ++ List.replicate (6 - 0) 0)) 63) = w0 at hE0 ⊢
  go_wp2
  go_loopw [5] (fun i wr => ∃ (j : Nat), j ≤ 3 ∧ i = .int .i64 (j : Int) ∧ Has wr w.heap.size 58 (us xs) ∧ Has wr (w.heap.size + 1) 63 z6 ∧ Has wr (w.heap.size + 2) 63 (us (xs.take j ++ List.replicate (6 - j) 0)) ∧ Below w.heap.size w wr) (fun i _ => 3 - (intOf i).toNat)
  case atStart => exact ⟨0, by omega, rfl, hE0⟩
  case round =>
    clear hE0 w0
    obtain ⟨j, hj, rfl, i1, i2, i3, hb⟩ := hrel
    by_cases hlt : j < 3
    · have hjb : decide ((j : Int) < 3) = true := by simp; omega
      have hj3 : ¬ ((3 : Int) ≤ (j : Int)) := by omega
      have hj6 : ¬ ((6 : Int) ≤ (j : Int)) := by omega
      have c1 := i1.u64 j (by omega)
      have c3 := i3.u64 j (by rw [pad_length xs 6 j (by omega) (by omega)]; omega)
      have f3 := i3.frozen j
      have hs := i3.setU j (xs.getD j 0)
      rw [pad_set xs 6 j (by omega) (by omega)] at hs
      have h1 := i1.other (p := ⟨w.heap.size + 2, j, none⟩) (by show w.heap.size ≠ w.heap.size + 2; omega) (U64 (xs.getD j 0))
      have h2 := i2.other (p := ⟨w.heap.size + 2, j, none⟩) (by show w.heap.size + 1 ≠ w.heap.size + 2; omega) (U64 (xs.getD j 0))
      have hb2 := hb.setCell (p := ⟨w.heap.size + 2, j, none⟩) (by show w.heap.size ≤ w.heap.size + 2; omega) (U64 (xs.getD j 0))
      generalize (xs.take j ++ List.replicate (6 - j) 0).getD j 0 = m at c3
      generalize xs.getD j 0 = x at c1 hs h1 h2 hb2
      have HS := Lib.hid (And.intro h1 (And.intro h2 (And.intro hs hb2)))
      clear h1 h2 hs hb2 i1 i2 i3 hb
      go_wp2
      go_roundw
      case rel => exact ⟨j + 1, by omega, by go_num, HS.out⟩
      case measure => simp [intOf]; omega
    · have hj3 : j = 3 := by omega
      subst hj3
      have hl := pad_length xs 6 3 (by omega) (by omega)
      rw [← HR.out] at i3 hl
      clear HR
      have HL := Lib.hid hl
      clear hl lx i1
      go_wp2_with (first
        | (refine wpList_load_row rfl 63 (.tmp 3) rfl (w.heap.size + 2) rfl 63 (us R) (0, 0) _ i3 Try.underlying63 rfl (info6 R HL.out) ?_)
        | (refine wpList_store_row rfl 63 (.tmp 2) (.tmp 14) rfl (w.heap.size + 1) (us R) rfl rfl 63 z6 i2 (info6 R HL.out) (z6_size R HL.out) (us_one R) ?_))
      refine bodyPost_ret (v := .agg (us R)) (results_cell_row rfl _ _ (w.heap.size + 1) 63 (us R) (0, 0) _ rfl (i2.setRow _) Try.underlying63 rfl (info6 R HL.out)) rfl ⟨rfl, below_setRow hb (by omega) _⟩
theorem and3 (a : Nat) (ha : a < 18446744073709551616) : bits .and .u64 (a : Int) 3 = ((a % 4 : Nat) : Int) := by
  have h := bits_and_u64_nat a 3 ha (by omega)
  have e : a &&& 3 = a % 4 := Nat.and_two_pow_sub_one_eq_mod a 2
  rw [e] at h
  exact h
theorem and_not3 (a : Nat) (ha : a < 18446744073709551616) : a &&& 18446744073709551612 = 4 * (a / 4) := by
  have e1 : 18446744073709551612 = 2 ^ 2 * (2 ^ 62 - 1) := by decide
  have e2 : 4 * (a / 4) = 2 ^ 2 * (a / 2 ^ 2) := rfl
  rw [e1, e2]
  apply Nat.eq_of_testBit_eq
  intro i
  rw [Nat.testBit_and, Nat.testBit_two_pow_mul, Nat.testBit_two_pow_mul, Nat.testBit_two_pow_sub_one, Nat.testBit_div_two_pow]
  by_cases h2 : 2 ≤ i
  · by_cases h64 : i < 64
    · have e3 : 2 + (i - 2) = i := by omega
      have e4 : i - 2 < 62 := by omega
      simp [h2, e4]
    · have hlt : a.testBit i = false := Nat.testBit_lt_two_pow (Nat.lt_of_lt_of_le ha (by
        have : (2 : Nat) ^ 64 ≤ 2 ^ i := Nat.pow_le_pow_right (by omega) (by omega)
        exact this))
      have e3 : 2 + (i - 2) = i := by omega
      have e4 : i - 2 + 2 = i := by omega
      simp [hlt, e4]
  · simp [h2]
theorem andNot3 (a : Nat) (ha : a < 18446744073709551616) : bits .andNot .u64 (a : Int) 3 = ((4 * (a / 4) : Nat) : Int) := by
  have h := u64_andNot_nat a 3 ha (by omega)
  rw [show 18446744073709551615 - 3 = 18446744073709551612 from rfl, and_not3 a ha] at h
  exact h
/-- a word of what lies at 2 to the 130 and above -/
def oneW (a b : Nat) : Nat := a / 4 + b % 4 * 4611686018427387904
theorem or_shift (a b : Nat) (ha : a < 18446744073709551616) : bits .or .u64 ((a : Int) / 4) (IntKind.u64.wrap ((b : Int) * 4611686018427387904)) = ((oneW a b : Nat) : Int) := by
  rw [IntKind.wrap_u64]
  have e1 : (a : Int) / 4 = ((a / 4 : Nat) : Int) := by omega
  have e2 : (b : Int) * 4611686018427387904 % 18446744073709551616 = ((b % 4 * 4611686018427387904 : Nat) : Int) := by omega
  rw [e1, e2, u64_or_nat _ _ (by omega) (by omega), Nat.or_comm, nat_join 62 _ _ (by omega) (by omega)]
  unfold oneW
  congr 1
  omega
def onceL (l : List Nat) : List Nat := [oneW (l.getD 2 0) (l.getD 3 0), oneW (l.getD 3 0) (l.getD 4 0), oneW (l.getD 4 0) (l.getD 5 0)]
theorem onceL_get (l : List Nat) (j : Nat) (h : j < 3) : (onceL l).getD j 0 = oneW (l.getD (j + 2) 0) (l.getD (j + 3) 0) := by
  have : j = 0 ∨ j = 1 ∨ j = 2 := by omega
  unfold onceL
  rcases this with rfl | rfl | rfl <;> simp only [List.getD_cons_zero, List.getD_cons_succ, Nat.zero_add, Nat.reduceAdd]
def fourL (l : List Nat) : List Nat := [l.getD 2 0, l.getD 3 0, l.getD 4 0]
theorem fourL_get (l : List Nat) (j : Nat) (h : j < 3) : (fourL l).getD j 0 = l.getD (j + 2) 0 := by
  have : j = 0 ∨ j = 1 ∨ j = 2 := by omega
  unfold fourL
  rcases this with rfl | rfl | rfl <;> simp only [List.getD_cons_zero, List.getD_cons_succ, Nat.zero_add, Nat.reduceAdd]
def lowL (l : List Nat) : List Nat := [l.getD 0 0, l.getD 1 0, l.getD 2 0 % 4]
/-- what a number below 2 to the 320 is folded to -/
def fld (L : Nat) : Nat := L % 1361129467683753853853498429727072845824 + 5 * (L / 1361129467683753853853498429727072845824)
theorem dg3 (a b c : Nat) (ha : a < 18446744073709551616) (hb : b < 18446744073709551616) (hc : c < 18446744073709551616) : [a, b, c] = dg 18446744073709551616 (a + 18446744073709551616 * (b + 18446744073709551616 * c)) 3 := by
  have h := dg_num 18446744073709551616 [a, b, c] (Dig.cons ha (Dig.cons hb (Dig.one hc)))
  have e : num 18446744073709551616 [a, b, c] = a + 18446744073709551616 * (b + 18446744073709551616 * c) := by simp only [num, Nat.mul_zero, Nat.add_zero]
  rw [← e]
  exact h.symm
theorem fold_parts (L : Nat) (hL : L < 2135987035920910082395021706169552114602704522356652769947041607822219725780640550022962086936576) :
    lowL (dg 18446744073709551616 L 6) = dg 18446744073709551616 (L % 1361129467683753853853498429727072845824) 3 ∧ onceL (dg 18446744073709551616 L 6) = dg 18446744073709551616 (L / 1361129467683753853853498429727072845824) 3 ∧
    (fourL (dg 18446744073709551616 L 6)).set 0 (4 * ((fourL (dg 18446744073709551616 L 6)).getD 0 0 / 4)) = dg 18446744073709551616 (4 * (L / 1361129467683753853853498429727072845824)) 3 := by
  have g0 : (dg 18446744073709551616 L 6).getD 0 0 = L % 18446744073709551616 := by simp only [dg, List.getD_cons_zero]
  have g1 : (dg 18446744073709551616 L 6).getD 1 0 = L / 18446744073709551616 % 18446744073709551616 := by simp only [dg, List.getD_cons_zero, List.getD_cons_succ]
  have g2 : (dg 18446744073709551616 L 6).getD 2 0 = L / 18446744073709551616 / 18446744073709551616 % 18446744073709551616 := by simp only [dg, List.getD_cons_zero, List.getD_cons_succ]
  have g3 : (dg 18446744073709551616 L 6).getD 3 0 = L / 18446744073709551616 / 18446744073709551616 / 18446744073709551616 % 18446744073709551616 := by simp only [dg, List.getD_cons_zero, List.getD_cons_succ]
  have g4 : (dg 18446744073709551616 L 6).getD 4 0 = L / 18446744073709551616 / 18446744073709551616 / 18446744073709551616 / 18446744073709551616 % 18446744073709551616 := by simp only [dg, List.getD_cons_zero, List.getD_cons_succ]
  have g5 : (dg 18446744073709551616 L 6).getD 5 0 = L / 18446744073709551616 / 18446744073709551616 / 18446744073709551616 / 18446744073709551616 / 18446744073709551616 % 18446744073709551616 := by simp only [dg, List.getD_cons_zero, List.getD_cons_succ]
  unfold lowL onceL fourL oneW
  rw [g0, g1, g2, g3, g4, g5]
  refine ⟨?_, ?_, ?_⟩
  · rw [dg3 _ _ _ (by omega) (by omega) (by omega)]
    congr 1
    omega
  · rw [dg3 _ _ _ (by omega) (by omega) (by omega)]
    congr 1
    omega
  · simp only [List.set_cons_zero, List.getD_cons_zero]
    rw [dg3 _ _ _ (by omega) (by omega) (by omega)]
    congr 1
    omega
end Go.Proofs.Ytfhjokbbaoldiaa
