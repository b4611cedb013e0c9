/- curve.rest: walked. -/
import Derived.Test.YtdikkdediofieaaEB
namespace Go.Proofs.Ytdikkdediofieaa
open Go.RowKit
theorem dg4 (n : Nat) : dg 18446744073709551616 n 4 = [n % 18446744073709551616, n / 18446744073709551616 % 18446744073709551616, n / 18446744073709551616 / 18446744073709551616 % 18446744073709551616, n / 18446744073709551616 / 18446744073709551616 / 18446744073709551616 % 18446744073709551616] := by
  simp only [dg]
theorem us4 (n : Nat) : us (dg 18446744073709551616 n 4) = #[U64 (n % 18446744073709551616), U64 (n / 18446744073709551616 % 18446744073709551616), U64 (n / 18446744073709551616 / 18446744073709551616 % 18446744073709551616), U64 (n / 18446744073709551616 / 18446744073709551616 / 18446744073709551616 % 18446744073709551616)] := by
  simp only [dg, us, List.map_cons, List.map_nil]
theorem low255 (n : Nat) : dg 18446744073709551616 (n % 57896044618658097711785492504343953926634992332820282019728792003956564819968) 4 = [n % 18446744073709551616, n / 18446744073709551616 % 18446744073709551616, n / 18446744073709551616 / 18446744073709551616 % 18446744073709551616, n / 18446744073709551616 / 18446744073709551616 / 18446744073709551616 % 18446744073709551616 % 9223372036854775808] := by
  have e : 57896044618658097711785492504343953926634992332820282019728792003956564819968 = 18446744073709551616 * (18446744073709551616 * (18446744073709551616 * 9223372036854775808)) := by decide
  rw [dg4, e, Nat.mod_mul_right_mod, Nat.mod_mul_right_div_self, Nat.mod_mul_right_mod, Nat.mod_mul_right_div_self, Nat.mod_mul_right_mod, Nat.mod_mul_right_div_self]
  rw [Nat.mod_mod_of_dvd (n / 18446744073709551616 / 18446744073709551616 / 18446744073709551616) (by decide : 9223372036854775808 ∣ 18446744073709551616)]
  rw [Nat.mod_eq_of_lt (a := n / 18446744073709551616 / 18446744073709551616 / 18446744073709551616 % 9223372036854775808) (by omega)]
theorem top255 (n : Nat) (h : n < 115792089237316195423570985008687907853269984665640564039457584007913129639936) : n / 18446744073709551616 / 18446744073709551616 / 18446744073709551616 % 18446744073709551616 / 9223372036854775808 = n / 57896044618658097711785492504343953926634992332820282019728792003956564819968 := by
  rw [Nat.div_div_eq_div_mul, Nat.div_div_eq_div_mul, Nat.mod_eq_of_lt (by omega), Nat.div_div_eq_div_mul]
theorem mod_by {X Z k p : Nat} (h : X = Z + p * k) (hz : Z < p) : X % p = Z := by rw [h, Nat.add_mul_mod_self_left, Nat.mod_eq_of_lt hz]
/-- what is left of a number below 2 to the 256 at first -/
def fst (X : Nat) : Nat := X % 57896044618658097711785492504343953926634992332820282019728792003956564819968 + 19 * (X / 57896044618658097711785492504343953926634992332820282019728792003956564819968)
theorem rest_eq (X : Nat) (hX : X < 115792089237316195423570985008687907853269984665640564039457584007913129639936) : (fst X + 19 * ((fst X + 19) / 57896044618658097711785492504343953926634992332820282019728792003956564819968)) % 57896044618658097711785492504343953926634992332820282019728792003956564819968 = X % 57896044618658097711785492504343953926634992332820282019728792003956564819949 ∧ fst X + 19 < 115792089237316195423570985008687907853269984665640564039457584007913129639936 ∧ fst X + 19 * ((fst X + 19) / 57896044618658097711785492504343953926634992332820282019728792003956564819968) < 115792089237316195423570985008687907853269984665640564039457584007913129639936 := by
  unfold fst
  have hq : X / 57896044618658097711785492504343953926634992332820282019728792003956564819968 ≤ 1 := by omega
  have hr : X % 57896044618658097711785492504343953926634992332820282019728792003956564819968 < 57896044618658097711785492504343953926634992332820282019728792003956564819968 := Nat.mod_lt _ (by omega)
  have hx : X = 57896044618658097711785492504343953926634992332820282019728792003956564819968 * (X / 57896044618658097711785492504343953926634992332820282019728792003956564819968) + X % 57896044618658097711785492504343953926634992332820282019728792003956564819968 := (Nat.div_add_mod X _).symm
  generalize X / 57896044618658097711785492504343953926634992332820282019728792003956564819968 = q at *
  generalize X % 57896044618658097711785492504343953926634992332820282019728792003956564819968 = r at *
  by_cases h : r + 19 * q + 19 < 57896044618658097711785492504343953926634992332820282019728792003956564819968
  · rw [Nat.div_eq_of_lt h, Nat.mul_zero, Nat.add_zero, Nat.mod_eq_of_lt (by omega)]
    refine ⟨(mod_by (k := q) (by omega) (by omega)).symm, by omega, by omega⟩
  · have e : (r + 19 * q + 19) / 57896044618658097711785492504343953926634992332820282019728792003956564819968 = 1 := by omega
    rw [e]
    refine ⟨?_, by omega, by omega⟩
    rw [mod_by (X := X) (Z := r + 19 * q - 57896044618658097711785492504343953926634992332820282019728792003956564819949) (k := q + 1) (by omega) (by omega), mod_by (Z := r + 19 * q - 57896044618658097711785492504343953926634992332820282019728792003956564819949) (k := 1) (by omega) (by omega)]
theorem us_word (v : Nat) (hv : v < 18446744073709551616) : us (dg 18446744073709551616 v 4) = #[U64 v, .int .u64 0, .int .u64 0, .int .u64 0] := by
  rw [us4]
  have e1 : v % 18446744073709551616 = v := Nat.mod_eq_of_lt hv
  have e2 : v / 18446744073709551616 = 0 := Nat.div_eq_of_lt hv
  rw [e1, e2]
  rfl
theorem and63 (a : Nat) (ha : a < 18446744073709551616) : bits .and .u64 (a : Int) 9223372036854775807 = ((a % 9223372036854775808 : Nat) : Int) := by
  have h := bits_and_u64_nat a 9223372036854775807 ha (by omega)
  have e : a &&& 9223372036854775807 = a % 9223372036854775808 := Nat.and_two_pow_sub_one_eq_mod a 63
  rw [e] at h
  exact h
theorem infoE (l : List Nat) (hl : l.length = 4) : (Try.prog.info? 39).map (·.size) = some (us l).size := by
  rw [us_size, hl]; exact (by kernel_rfl : (Try.prog.info? 39).map (·.size) = some 4)
set_option maxHeartbeats 1000000 in
theorem rest_any (X : Nat) (hX : X < 115792089237316195423570985008687907853269984665640564039457584007913129639936) (w : World) :
    Calls Try.prog 31 #[.agg (us (dg 18446744073709551616 X 4))] w fun e w' => e = .returned (.agg (us (dg 18446744073709551616 (X % 57896044618658097711785492504343953926634992332820282019728792003956564819949) 4))) ∧ Below w.heap.size w w' := by
  obtain ⟨hr, ho, ho2⟩ := rest_eq X hX
  have h1 := added_any (X % 57896044618658097711785492504343953926634992332820282019728792003956564819968) (19 * (X / 57896044618658097711785492504343953926634992332820282019728792003956564819968))
  rw [low255, us_word (19 * (X / 57896044618658097711785492504343953926634992332820282019728792003956564819968)) (by omega), show X % 57896044618658097711785492504343953926634992332820282019728792003956564819968 + 19 * (X / 57896044618658097711785492504343953926634992332820282019728792003956564819968) = fst X from rfl] at h1
  have h3 := added_any (fst X) 19
  rw [us_word 19 (by omega), us4 (fst X + 19)] at h3
  have h4 := added_any (fst X) (19 * ((fst X + 19) / 57896044618658097711785492504343953926634992332820282019728792003956564819968))
  rw [us_word (19 * ((fst X + 19) / 57896044618658097711785492504343953926634992332820282019728792003956564819968)) (by omega), dg4 (fst X + 19 * ((fst X + 19) / 57896044618658097711785492504343953926634992332820282019728792003956564819968))] at h4
  have hres := low255 (fst X + 19 * ((fst X + 19) / 57896044618658097711785492504343953926634992332820282019728792003956564819968))
  rw [hr] at hres
  rw [hres]
  have ht := top255 (fst X + 19) ho
  have ht0 := top255 X hX
  have ly : (dg 18446744073709551616 (fst X) 4).length = 4 := dg_length _ _ _
  have hc : (fst X + 19 * ((fst X + 19) / 57896044618658097711785492504343953926634992332820282019728792003956564819968)) / 18446744073709551616 / 18446744073709551616 / 18446744073709551616 % 18446744073709551616 < 18446744073709551616 := Nat.mod_lt _ (by omega)
  have hc0 : X / 18446744073709551616 / 18446744073709551616 / 18446744073709551616 % 18446744073709551616 < 18446744073709551616 := Nat.mod_lt _ (by omega)
  have hq : X / 57896044618658097711785492504343953926634992332820282019728792003956564819968 ≤ 1 := by omega
  have hq2 : (fst X + 19) / 57896044618658097711785492504343953926634992332820282019728792003956564819968 ≤ 1 := by omega
  generalize fst X + 19 * ((fst X + 19) / 57896044618658097711785492504343953926634992332820282019728792003956564819968) = T at *
  rw [dg4 X]
  generalize (fst X + 19) / 57896044618658097711785492504343953926634992332820282019728792003956564819968 = ov at *
  generalize X / 57896044618658097711785492504343953926634992332820282019728792003956564819968 = ab at *
  generalize hyy : dg 18446744073709551616 (fst X) 4 = ys at *
  generalize (fst X + 19) % 18446744073709551616 = a0 at *
  generalize (fst X + 19) / 18446744073709551616 % 18446744073709551616 = b0 at *
  generalize (fst X + 19) / 18446744073709551616 / 18446744073709551616 % 18446744073709551616 = c0 at *
  generalize (fst X + 19) / 18446744073709551616 / 18446744073709551616 / 18446744073709551616 % 18446744073709551616 = d0 at *
  generalize T % 18446744073709551616 = a1 at *
  generalize T / 18446744073709551616 % 18446744073709551616 = b1 at *
  generalize T / 18446744073709551616 / 18446744073709551616 % 18446744073709551616 = c1 at *
  have hm := and63 _ hc
  have hm0 := and63 _ hc0
  generalize T / 18446744073709551616 / 18446744073709551616 / 18446744073709551616 % 18446744073709551616 = d1 at *
  generalize X % 18446744073709551616 = x0 at *
  generalize X / 18446744073709551616 % 18446744073709551616 = x1 at *
  generalize X / 18446744073709551616 / 18446744073709551616 % 18446744073709551616 = x2 at *
  generalize X / 18446744073709551616 / 18446744073709551616 / 18446744073709551616 % 18446744073709551616 = x3 at *
  have hov : (d0 : Int) / 9223372036854775808 = ((ov : Nat) : Int) := by omega
  have hab : (x3 : Int) / 9223372036854775808 = ((ab : Nat) : Int) := by omega
  have hw1 : IntKind.u64.wrap (19 * (ab : Int)) = ((19 * ab : Nat) : Int) := by rw [IntKind.wrap_u64]; omega
  have hw2 : IntKind.u64.wrap (19 * (ov : Int)) = ((19 * ov : Nat) : Int) := by rw [IntKind.wrap_u64]; omega
  generalize d1 % 9223372036854775808 = d2 at *
  generalize x3 % 9223372036854775808 = x4 at *
  generalize 19 * ab = v1 at *
  generalize 19 * ov = v2 at *
  have H1 := Lib.hid h1
  have H3 := Lib.hid h3
  have H4 := Lib.hid h4
  have HY := Lib.hid ly
  clear h1 h3 h4 ly hr hres hX ho ho2 hyy hc hc0 ht ht0 hq hq2
  have hix : ∀ w, (Instr.index 38 (.agg #[U64 a0, U64 b0, U64 c0, U64 d0]) (.int .i64 3)).run Try.prog w = .ok (U64 d0) w := fun _ => by kernel_rfl
  have hE := two_new w (us [x0, x1, x2, x3]) z4 38 39
  go_enter Try.func31, Try.ntmps31
  go_upto_region 1 with fail
  change Code.wp _ _ _ _ ((w.alloc (.cells (us [x0, x1, x2, x3]) 38)).alloc (.cells z4 39))
  generalize (w.alloc (.cells (us [x0, x1, x2, x3]) 38)).alloc (.cells z4 39) = w0 at hE ⊢
  obtain ⟨i1, i2, hb⟩ := hE
  have k2 : w0.cell? ⟨w.heap.size, 3, none⟩ = some (U64 x3) := i1.u64 3 (by simp)
  have f2 := i1.frozen 3
  have j1 := i1.setU 3 x4
  have j2 := i2.other (p := ⟨w.heap.size, 3, none⟩) (by show w.heap.size + 1 ≠ w.heap.size; omega) (U64 x4)
  have jb := hb.setCell (p := ⟨w.heap.size, 3, none⟩) (Nat.le_refl _) (U64 x4)
  go_upto_region 3 with fail
  change Code.wp _ _ _ _ (w0.setCell ⟨w.heap.size, 3, none⟩ (U64 x4))
  generalize w0.setCell ⟨w.heap.size, 3, none⟩ (U64 x4) = w1 at j1 j2 jb ⊢
  clear k2 f2 i1 i2 hb w0
  change Has w1 w.heap.size 38 (us [x0, x1, x2, x4]) at j1
  have i1 := j1
  have i2 := j2
  have hb := jb
  clear j1 j2 jb
  go_wp2_with (refine wpList_load_row rfl 38 (.tmp 1) rfl w.heap.size rfl 38 (us [x0, x1, x2, x4]) (0, 0) _ i1 Try.underlying38 rfl (info4 [x0, x1, x2, x4] rfl) ?_)
  go_at_call 37
  refine (H1.out _).mono ?_
  rintro e w2 ⟨rfl, hb1⟩
  replace i1 := i1.below hb1 i1.lt
  replace i2 := i2.below hb1 i2.lt
  replace hb := hb.trans (hb1.mono hb.size)
  clear hb1 w1
  go_upto_region 4 with (refine wpList_store_row rfl 38 (.tmp 1) (.tmp 16) rfl w.heap.size (us ys) rfl rfl 38 (us [x0, x1, x2, x4]) i1 (info4 ys HY.out) (by rw [us_size, us_size, HY.out]; rfl) (us_one _) ?_)
  change Code.wp _ _ _ _ (w2.setRow w.heap.size (us ys))
  replace i1 := i1.setRow (us ys)
  replace i2 := i2.setRow_other (g' := w.heap.size) (by omega) (us ys)
  replace hb := below_setRow hb (g := w.heap.size) (by omega) (us ys)
  generalize w2.setRow w.heap.size (us ys) = w3 at i1 i2 hb ⊢
  clear w2 H1
  go_wp2_with (refine wpList_load_row rfl 38 (.tmp 1) rfl w.heap.size rfl 38 (us ys) (0, 0) _ i1 Try.underlying38 rfl (info4 ys HY.out) ?_)
  go_at_call 37
  refine (H3.out _).mono ?_
  rintro e w4 ⟨rfl, hb1⟩
  replace i1 := i1.below hb1 i1.lt
  replace i2 := i2.below hb1 i2.lt
  replace hb := hb.trans (hb1.mono hb.size)
  clear hb1 w3 H3
  go_wp2_with (refine wpList_load_row rfl 38 (.tmp 1) rfl w.heap.size rfl 38 (us ys) (0, 0) _ i1 Try.underlying38 rfl (info4 ys HY.out) ?_)
  go_at_call 37
  refine (H4.out _).mono ?_
  rintro e w5 ⟨rfl, hb1⟩
  replace i1 := i1.below hb1 i1.lt
  replace i2 := i2.below hb1 i2.lt
  replace hb := hb.trans (hb1.mono hb.size)
  clear hb1 w4 H4
  go_upto_region 6 with (refine wpList_store_row rfl 38 (.tmp 1) (.tmp 26) rfl w.heap.size (us [a1, b1, c1, d1]) rfl rfl 38 (us ys) i1 (info4 [a1, b1, c1, d1] rfl) (by rw [us_size, us_size, HY.out]; rfl) (us_one _) ?_)
  change Code.wp _ _ _ _ (w5.setRow w.heap.size (us [a1, b1, c1, d1]))
  replace i1 := i1.setRow (us [a1, b1, c1, d1])
  replace i2 := i2.setRow_other (g' := w.heap.size) (by omega) (us [a1, b1, c1, d1])
  replace hb := below_setRow hb (g := w.heap.size) (by omega) (us [a1, b1, c1, d1])
  generalize w5.setRow w.heap.size (us [a1, b1, c1, d1]) = w6 at i1 i2 hb ⊢
  clear w5
  have k2 : w6.cell? ⟨w.heap.size, 3, none⟩ = some (U64 d1) := i1.u64 3 (by simp)
  have f2 := i1.frozen 3
  have j1 := i1.setU 3 d2
  have j2 := i2.other (p := ⟨w.heap.size, 3, none⟩) (by show w.heap.size + 1 ≠ w.heap.size; omega) (U64 d2)
  have jb := hb.setCell (p := ⟨w.heap.size, 3, none⟩) (Nat.le_refl _) (U64 d2)
  go_upto_region 7 with fail
  change Code.wp _ _ _ _ (w6.setCell ⟨w.heap.size, 3, none⟩ (U64 d2))
  generalize w6.setCell ⟨w.heap.size, 3, none⟩ (U64 d2) = w7 at j1 j2 jb ⊢
  clear k2 f2 i1 i2 hb w6
  change Has w7 w.heap.size 38 (us [a1, b1, c1, d2]) at j1
  go_wp2_with (first
    | (refine wpList_load_row rfl 38 (.tmp 1) rfl w.heap.size rfl 38 (us [a1, b1, c1, d2]) (0, 0) _ j1 Try.underlying38 rfl (info4 [a1, b1, c1, d2] rfl) ?_)
    | (refine wpList_store_row rfl 39 (.tmp 2) (.tmp 31) rfl (w.heap.size + 1) (us [a1, b1, c1, d2]) rfl rfl 39 z4 j2 (infoE [a1, b1, c1, d2] rfl) (z4_size [a1, b1, c1, d2] rfl) (us_one _) ?_))
  refine bodyPost_ret (v := .agg (us [a1, b1, c1, d2])) (results_cell_row rfl _ _ (w.heap.size + 1) 39 (us [a1, b1, c1, d2]) (0, 0) _ rfl (j2.setRow _) Try.underlying39 rfl (infoE [a1, b1, c1, d2] rfl)) rfl ⟨rfl, below_setRow jb (by omega) _⟩
end Go.Proofs.Ytdikkdediofieaa
