/- poly.Rest: walked. -/
import Derived.Test.YtfhjokbbaoldiaaPF
namespace Go.Proofs.Ytfhjokbbaoldiaa
open Go.RowKit
theorem us3 (n : Nat) : us (dg 18446744073709551616 n 3) = #[U64 (n % 18446744073709551616), U64 (n / 18446744073709551616 % 18446744073709551616), U64 (n / 18446744073709551616 / 18446744073709551616 % 18446744073709551616)] := by
  simp only [dg, us, List.map_cons, List.map_nil]
theorem low130 (n : Nat) : us (dg 18446744073709551616 (n % 1361129467683753853853498429727072845824) 3) = #[U64 (n % 18446744073709551616), U64 (n / 18446744073709551616 % 18446744073709551616), U64 (n / 18446744073709551616 / 18446744073709551616 % 18446744073709551616 % 4)] := by
  rw [us3]
  have e1 : n % 1361129467683753853853498429727072845824 % 18446744073709551616 = n % 18446744073709551616 := by omega
  have e2 : n % 1361129467683753853853498429727072845824 / 18446744073709551616 % 18446744073709551616 = n / 18446744073709551616 % 18446744073709551616 := by omega
  have e3 : n % 1361129467683753853853498429727072845824 / 18446744073709551616 / 18446744073709551616 % 18446744073709551616 = n / 18446744073709551616 / 18446744073709551616 % 18446744073709551616 % 4 := by omega
  rw [e1, e2, e3]
theorem top_word (n : Nat) (hn : n < 2722258935367507707706996859454145691648) : n / 18446744073709551616 / 18446744073709551616 % 18446744073709551616 / 4 = n / 1361129467683753853853498429727072845824 := by
  rw [Nat.div_div_eq_div_mul, show 18446744073709551616 * 18446744073709551616 = 340282366920938463463374607431768211456 from rfl, Nat.mod_eq_of_lt (by omega), Nat.div_div_eq_div_mul]
theorem mod_by {X Z k p : Nat} (h : X = Z + p * k) (hz : Z < p) : X % p = Z := by rw [h, Nat.add_mul_mod_self_left, Nat.mod_eq_of_lt hz]
theorem rest_eq (X : Nat) (hX : X < 6277101735386680763835789423207666416102355444464034512896) :
    (fld X + 5 * ((fld X + 5) / 18446744073709551616 / 18446744073709551616 % 18446744073709551616 / 4)) % 1361129467683753853853498429727072845824 = X % 1361129467683753853853498429727072845819 ∧ (fld X + 5) / 18446744073709551616 / 18446744073709551616 % 18446744073709551616 / 4 ≤ 1 := by
  unfold fld
  have hq : X / 1361129467683753853853498429727072845824 < 4611686018427387904 := by omega
  have hr : X % 1361129467683753853853498429727072845824 < 1361129467683753853853498429727072845824 := Nat.mod_lt _ (by omega)
  have hx : X = 1361129467683753853853498429727072845824 * (X / 1361129467683753853853498429727072845824) + X % 1361129467683753853853498429727072845824 := (Nat.div_add_mod X _).symm
  generalize X / 1361129467683753853853498429727072845824 = q at *
  generalize X % 1361129467683753853853498429727072845824 = r at *
  rw [top_word _ (by omega)]
  by_cases h : r + 5 * q + 5 < 1361129467683753853853498429727072845824
  · rw [Nat.div_eq_of_lt h, Nat.mul_zero, Nat.add_zero, Nat.mod_eq_of_lt (by omega)]
    refine ⟨(mod_by (k := q) (by omega) (by omega)).symm, by omega⟩
  · have e : (r + 5 * q + 5) / 1361129467683753853853498429727072845824 = 1 := by omega
    rw [e]
    refine ⟨?_, by omega⟩
    rw [mod_by (X := X) (Z := r + 5 * q - 1361129467683753853853498429727072845819) (k := q + 1) (by omega) (by omega), mod_by (Z := r + 5 * q - 1361129467683753853853498429727072845819) (k := 1) (by omega) (by omega)]
theorem us_word (v : Nat) (hv : v < 18446744073709551616) : us (dg 18446744073709551616 v 3) = #[U64 v, .int .u64 0, .int .u64 0] := by
  rw [us3]
  have e1 : v % 18446744073709551616 = v := by omega
  have e2 : v / 18446744073709551616 % 18446744073709551616 = 0 := by omega
  have e3 : v / 18446744073709551616 / 18446744073709551616 % 18446744073709551616 = 0 := by omega
  rw [e1, e2, e3]
  rfl
set_option maxHeartbeats 1000000 in
theorem rest_any (X : Nat) (hX : X < 6277101735386680763835789423207666416102355444464034512896) (w : World) :
    Calls Try.prog 37 #[.agg (us (dg 18446744073709551616 X 3))] w fun e w' => e = .returned (.agg (us (dg 18446744073709551616 (X % 1361129467683753853853498429727072845819) 3))) ∧ Below w.heap.size w w' := by
  obtain ⟨hr, ho⟩ := rest_eq X hX
  have H1 := Lib.hid (widened_any X hX)
  have H2 := Lib.hid (folded_any X (by omega))
  have h3 := added_any (fld X) 5
  have h4 := added_any (fld X) (5 * ((fld X + 5) / 18446744073709551616 / 18446744073709551616 % 18446744073709551616 / 4))
  rw [us_word 5 (by omega), us3 (fld X + 5)] at h3
  rw [us_word (5 * ((fld X + 5) / 18446744073709551616 / 18446744073709551616 % 18446744073709551616 / 4)) (by omega), us3 (fld X + 5 * ((fld X + 5) / 18446744073709551616 / 18446744073709551616 % 18446744073709551616 / 4))] at h4
  have hres := low130 (fld X + 5 * ((fld X + 5) / 18446744073709551616 / 18446744073709551616 % 18446744073709551616 / 4))
  rw [hr] at hres
  rw [hres]
  have lx : (dg 18446744073709551616 X 3).length = 3 := dg_length _ _ _
  have ly : (dg 18446744073709551616 (fld X) 3).length = 3 := dg_length _ _ _
  have hc : (fld X + 5 * ((fld X + 5) / 18446744073709551616 / 18446744073709551616 % 18446744073709551616 / 4)) / 18446744073709551616 / 18446744073709551616 % 18446744073709551616 < 18446744073709551616 := Nat.mod_lt _ (by omega)
  generalize fld X + 5 * ((fld X + 5) / 18446744073709551616 / 18446744073709551616 % 18446744073709551616 / 4) = T at *
  generalize (fld X + 5) / 18446744073709551616 / 18446744073709551616 % 18446744073709551616 = c at *
  have hov : (c : Int) / 4 = ((c / 4 : Nat) : Int) := by omega
  have hw5 : IntKind.u64.wrap (5 * ((c / 4 : Nat) : Int)) = ((5 * (c / 4) : Nat) : Int) := by rw [IntKind.wrap_u64]; omega
  generalize 5 * (c / 4) = v at *
  generalize c / 4 = ov at *
  generalize hxs : dg 18446744073709551616 X 3 = xs at *
  generalize hyy : dg 18446744073709551616 (fld X) 3 = ys at *
  generalize hW : dg 18446744073709551616 X 6 = ws6 at *
  generalize (fld X + 5) % 18446744073709551616 = a0 at *
  generalize (fld X + 5) / 18446744073709551616 % 18446744073709551616 = b0 at *
  generalize T % 18446744073709551616 = a1 at *
  generalize T / 18446744073709551616 % 18446744073709551616 = b1 at *
  have hm := and3 _ hc
  generalize T / 18446744073709551616 / 18446744073709551616 % 18446744073709551616 = c1 at *
  generalize c1 % 4 = c2 at *
  have H3 := Lib.hid h3
  have H4 := Lib.hid h4
  have HX := Lib.hid lx
  have HY := Lib.hid ly
  clear h3 h4 lx ly hr hres hX ho hxs hyy hW hc
  have hix : ∀ w, (Instr.index 58 (.agg #[U64 a0, U64 b0, U64 c]) (.int .i64 2)).run Try.prog w = .ok (U64 c) w := fun _ => by kernel_rfl
  have hE := two_new w (us xs) z3 58 58
  go_enter Try.func37, Try.ntmps37
  go_upto_region 1 with fail
  change Code.wp _ _ _ _ ((w.alloc (.cells (us xs) 58)).alloc (.cells z3 58))
  generalize (w.alloc (.cells (us xs) 58)).alloc (.cells z3 58) = w0 at hE ⊢
  obtain ⟨i1, i2, hb⟩ := hE
  go_wp2_with (refine wpList_load_row rfl 58 (.tmp 1) rfl w.heap.size rfl 58 (us xs) (0, 0) _ i1 Try.underlying58 rfl (info3 xs HX.out) ?_)
  go_at_call 51
  refine (H1.out _).mono ?_
  rintro e w1 ⟨rfl, hb1⟩
  replace i1 := i1.below hb1 i1.lt
  replace i2 := i2.below hb1 i2.lt
  replace hb := hb.trans (hb1.mono hb.size)
  clear hb1 w0
  go_wp2_with fail
  go_at_call 38
  refine (H2.out _).mono ?_
  rintro e w2 ⟨rfl, hb1⟩
  replace i1 := i1.below hb1 i1.lt
  replace i2 := i2.below hb1 i2.lt
  replace hb := hb.trans (hb1.mono hb.size)
  clear hb1 w1
  go_upto_region 2 with (refine wpList_store_row rfl 58 (.tmp 1) (.tmp 6) rfl w.heap.size (us ys) rfl rfl 58 (us xs) i1 (info3 ys HY.out) (by rw [us_size, us_size, HX.out, HY.out]) (us_one ys) ?_)
  change Code.wp _ _ _ _ (w2.setRow w.heap.size (us ys))
  replace i1 := i1.setRow (us ys)
  replace i2 := i2.setRow_other (g' := w.heap.size) (by omega) (us ys)
  replace hb := below_setRow hb (g := w.heap.size) (by omega) (us ys)
  generalize w2.setRow w.heap.size (us ys) = w3 at i1 i2 hb ⊢
  clear w2 H1 H2
  go_wp2_with (refine wpList_load_row rfl 58 (.tmp 1) rfl w.heap.size rfl 58 (us ys) (0, 0) _ i1 Try.underlying58 rfl (info3 ys HY.out) ?_)
  go_at_call 35
  refine (H3.out _).mono ?_
  rintro e w4 ⟨rfl, hb1⟩
  replace i1 := i1.below hb1 i1.lt
  replace i2 := i2.below hb1 i2.lt
  replace hb := hb.trans (hb1.mono hb.size)
  clear hb1 w3 H3
  go_wp2_with (refine wpList_load_row rfl 58 (.tmp 1) rfl w.heap.size rfl 58 (us ys) (0, 0) _ i1 Try.underlying58 rfl (info3 ys HY.out) ?_)
  go_at_call 35
  refine (H4.out _).mono ?_
  rintro e w5 ⟨rfl, hb1⟩
  replace i1 := i1.below hb1 i1.lt
  replace i2 := i2.below hb1 i2.lt
  replace hb := hb.trans (hb1.mono hb.size)
  clear hb1 w4 H4
  go_upto_region 4 with (refine wpList_store_row rfl 58 (.tmp 1) (.tmp 16) rfl w.heap.size (us [a1, b1, c1]) rfl rfl 58 (us ys) i1 (info3 [a1, b1, c1] rfl) (by rw [us_size, us_size, HY.out]; rfl) (us_one _) ?_)
  change Code.wp _ _ _ _ (w5.setRow w.heap.size (us [a1, b1, c1]))
  replace i1 := i1.setRow (us [a1, b1, c1])
  replace i2 := i2.setRow_other (g' := w.heap.size) (by omega) (us [a1, b1, c1])
  replace hb := below_setRow hb (g := w.heap.size) (by omega) (us [a1, b1, c1])
  generalize w5.setRow w.heap.size (us [a1, b1, c1]) = w6 at i1 i2 hb ⊢
  clear w5
  have k2 : w6.cell? ⟨w.heap.size, 2, none⟩ = some (U64 c1) := i1.u64 2 (by simp)
  have f2 := i1.frozen 2
  have j1 := i1.setU 2 c2
  have j2 := i2.other (p := ⟨w.heap.size, 2, none⟩) (by show w.heap.size + 1 ≠ w.heap.size; omega) (U64 c2)
  have jb := hb.setCell (p := ⟨w.heap.size, 2, none⟩) (Nat.le_refl _) (U64 c2)
  go_upto_region 5 with fail
  change Code.wp _ _ _ _ (w6.setCell ⟨w.heap.size, 2, none⟩ (U64 c2))
  generalize w6.setCell ⟨w.heap.size, 2, none⟩ (U64 c2) = w7 at j1 j2 jb ⊢
  clear k2 f2 i1 i2 hb w6
  change Has w7 w.heap.size 58 (us [a1, b1, c2]) at j1
  go_wp2_with (first
    | (refine wpList_load_row rfl 58 (.tmp 1) rfl w.heap.size rfl 58 (us [a1, b1, c2]) (0, 0) _ j1 Try.underlying58 rfl (info3 [a1, b1, c2] rfl) ?_)
    | (refine wpList_store_row rfl 58 (.tmp 2) (.tmp 21) rfl (w.heap.size + 1) (us [a1, b1, c2]) rfl rfl 58 z3 j2 (info3 [a1, b1, c2] rfl) (z3_size [a1, b1, c2] rfl) (us_one _) ?_))
  refine bodyPost_ret (v := .agg (us [a1, b1, c2])) (results_cell_row rfl _ _ (w.heap.size + 1) 58 (us [a1, b1, c2]) (0, 0) _ rfl (j2.setRow _) Try.underlying58 rfl (info3 [a1, b1, c2] rfl)) rfl ⟨rfl, below_setRow jb (by omega) _⟩
end Go.Proofs.Ytfhjokbbaoldiaa
