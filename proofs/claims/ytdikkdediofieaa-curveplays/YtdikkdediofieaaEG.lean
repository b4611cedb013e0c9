/- curve.square, curve.sum, curve.difference: walked. -/
import Derived.Test.YtdikkdediofieaaEF
import Derived.Shelf.Spec.BitsCarry
namespace Go.Proofs.Ytdikkdediofieaa
open Go.RowKit
theorem square_any (X : Nat) (hX : X < 57896044618658097711785492504343953926634992332820282019728792003956564819968) (w : World) :
    Calls Try.prog 34 #[.agg (us (dg 18446744073709551616 X 4))] w fun e w' => e = .returned (.agg (us (dg 18446744073709551616 (X * X % 57896044618658097711785492504343953926634992332820282019728792003956564819949) 4))) ∧ Below w.heap.size w w' := by
  have h1 := product_any X X hX hX
  have lx : (dg 18446744073709551616 X 4).length = 4 := dg_length _ _ _
  obtain ⟨zs, hzs⟩ : ∃ zs, zs = dg 18446744073709551616 (X * X % 57896044618658097711785492504343953926634992332820282019728792003956564819949) 4 := ⟨_, rfl⟩
  have lz : zs.length = 4 := by rw [hzs, dg_length]
  rw [← hzs] at h1 ⊢
  generalize dg 18446744073709551616 X 4 = xs at h1 lx ⊢
  have H1 := Lib.hid h1
  have HX := Lib.hid lx
  have HZ := Lib.hid lz
  clear h1 lx lz hzs
  have hE := two_new w (us xs) z4 39 39
  go_enter Try.func34, Try.ntmps34
  go_upto_region 1 with fail
  change Code.wp _ _ _ _ ((w.alloc (.cells (us xs) 39)).alloc (.cells z4 39))
  generalize (w.alloc (.cells (us xs) 39)).alloc (.cells z4 39) = w0 at hE ⊢
  obtain ⟨i1, i2, hb⟩ := hE
  go_wp2_with (refine wpList_load_row rfl 39 (.tmp 1) rfl w.heap.size rfl 39 (us xs) (0, 0) _ i1 Try.underlying39 rfl (infoE xs HX.out) ?_)
  go_at_call 24
  refine (H1.out _).mono ?_
  rintro e w1 ⟨rfl, hb1⟩
  replace i2 := i2.below hb1 i2.lt
  replace hb := hb.trans (hb1.mono hb.size)
  clear hb1 i1 w0 H1
  go_wp2_with (refine wpList_store_row rfl 39 (.tmp 2) (.tmp 5) rfl (w.heap.size + 1) (us zs) rfl rfl 39 z4 i2 (infoE zs HZ.out) (z4_size zs HZ.out) (us_one _) ?_)
  refine bodyPost_ret (v := .agg (us zs)) (results_cell_row rfl _ _ (w.heap.size + 1) 39 (us zs) (0, 0) _ rfl (i2.setRow _) Try.underlying39 rfl (infoE zs HZ.out)) rfl ⟨rfl, below_setRow hb (by omega) _⟩
set_option maxHeartbeats 400000 in
theorem sum_any (X Y : Nat) (h : X + Y < 115792089237316195423570985008687907853269984665640564039457584007913129639936) (w : World) :
    Calls Try.prog 35 #[.agg (us (dg 18446744073709551616 X 4)), .agg (us (dg 18446744073709551616 Y 4))] w fun e w' => e = .returned (.agg (us (dg 18446744073709551616 ((X + Y) % 57896044618658097711785492504343953926634992332820282019728792003956564819949) 4))) ∧ Below w.heap.size w w' := by
  have h1 := added_any X Y
  have h2 := rest_any (X + Y) h
  have lx : (dg 18446744073709551616 X 4).length = 4 := dg_length _ _ _
  have ly : (dg 18446744073709551616 Y 4).length = 4 := dg_length _ _ _
  obtain ⟨zs, hzs⟩ : ∃ zs, zs = dg 18446744073709551616 ((X + Y) % 57896044618658097711785492504343953926634992332820282019728792003956564819949) 4 := ⟨_, rfl⟩
  have lz : zs.length = 4 := by rw [hzs, dg_length]
  rw [← hzs] at h2 ⊢
  generalize dg 18446744073709551616 X 4 = xs at h1 lx ⊢
  generalize dg 18446744073709551616 Y 4 = ys at h1 ly ⊢
  generalize dg 18446744073709551616 (X + Y) 4 = ss at h1 h2
  have H1 := Lib.hid h1
  have H2 := Lib.hid h2
  have HX := Lib.hid lx
  have HY := Lib.hid ly
  have HZ := Lib.hid lz
  clear h1 h2 lx ly lz hzs
  have hE := three_new w (us xs) (us ys) z4 39 39 39
  go_enter Try.func35, Try.ntmps35
  go_upto_region 1 with fail
  change Code.wp _ _ _ _ (((w.alloc (.cells (us xs) 39)).alloc (.cells (us ys) 39)).alloc (.cells z4 39))
  generalize ((w.alloc (.cells (us xs) 39)).alloc (.cells (us ys) 39)).alloc (.cells z4 39) = w0 at hE ⊢
  obtain ⟨i1, i2, i3, hb⟩ := hE
  go_wp2_with (first
    | (refine wpList_load_row rfl 39 (.tmp 2) rfl w.heap.size rfl 39 (us xs) (0, 0) _ i1 Try.underlying39 rfl (infoE xs HX.out) ?_)
    | (refine wpList_load_row rfl 39 (.tmp 3) rfl (w.heap.size + 1) rfl 39 (us ys) (0, 0) _ i2 Try.underlying39 rfl (infoE ys HY.out) ?_))
  go_at_call 37
  refine (H1.out _).mono ?_
  rintro e w1 ⟨rfl, hb1⟩
  replace i3 := i3.below hb1 i3.lt
  replace hb := hb.trans (hb1.mono hb.size)
  clear hb1 i1 i2 w0 H1
  go_wp2_with fail
  go_at_call 31
  refine (H2.out _).mono ?_
  rintro e w2 ⟨rfl, hb1⟩
  replace i3 := i3.below hb1 i3.lt
  replace hb := hb.trans (hb1.mono hb.size)
  clear hb1 w1 H2
  go_wp2_with (refine wpList_store_row rfl 39 (.tmp 4) (.tmp 8) rfl (w.heap.size + 1 + 1) (us zs) rfl rfl 39 z4 i3 (infoE zs HZ.out) (z4_size zs HZ.out) (us_one _) ?_)
  refine bodyPost_ret (v := .agg (us zs)) (results_cell_row rfl _ _ (w.heap.size + 1 + 1) 39 (us zs) (0, 0) _ rfl (i3.setRow _) Try.underlying39 rfl (infoE zs HZ.out)) rfl ⟨rfl, below_setRow hb (by omega) _⟩
theorem sub64_eq (x y c s k : Nat) (hc : c ≤ 1) (hs : s < 18446744073709551616) (hk : k ≤ 1) (hx : x < 18446744073709551616) (hy : y < 18446744073709551616) (h : s + y + c = x + k * 18446744073709551616) (w : World) : (callFunc 40 #[U64 x, U64 y, U64 c]).run Try.prog w = .ok (.value (.tuple #[U64 s, U64 k])) w := by
  rw [run_callFunc_extern Try.func40 (by kernel_rfl) (by kernel_rfl) (by kernel_rfl) (e := sub64Entry) (by kernel_rfl), run_sub64 x y c hc]
  have e1 : (x + 18446744073709551616 - y - c) % 18446744073709551616 = s := by omega
  have e2 : (if x < y + c then 1 else 0) = k := by split <;> omega
  rw [e1, e2]
  rfl
def pL : List Nat := dg 18446744073709551616 57896044618658097711785492504343953926634992332820282019728792003956564819949 4
theorem pL_eq : (us pL) = #[.int .u64 18446744073709551597, .int .u64 18446744073709551615, .int .u64 18446744073709551615, .int .u64 9223372036854775807] := by
  have h : pL = [18446744073709551597, 18446744073709551615, 18446744073709551615, 9223372036854775807] := by decide +kernel
  rw [h]
  rfl
/-- what memory holds in the midst of a difference -/
def DiffEnv (w : World) (xs ys o : List Nat) (W : World) : Prop :=
  Has W w.heap.size 39 (us xs) ∧ Has W (w.heap.size + 1) 39 (us ys) ∧ Has W (w.heap.size + 1 + 1) 39 z4 ∧ Has W (w.heap.size + 1 + 1 + 1) 38 (us o) ∧ Below w.heap.size w W
section
variable {w : World} {xs ys o : List Nat} {W W' : World}
theorem DiffEnv.drew (h : DiffEnv w xs ys o W) : DiffEnv w xs ys o W.drew := ⟨h.1, h.2.1, h.2.2.1, h.2.2.2.1, h.2.2.2.2.drew⟩
theorem DiffEnv.put (h : DiffEnv w xs ys o W) (j s : Nat) : DiffEnv w xs ys (o.set j s) (W.setCell ⟨w.heap.size + 1 + 1 + 1, j, none⟩ (U64 s)) :=
  ⟨h.1.other (by show w.heap.size ≠ w.heap.size + 1 + 1 + 1; omega) _, h.2.1.other (by show w.heap.size + 1 ≠ w.heap.size + 1 + 1 + 1; omega) _, h.2.2.1.other (by show w.heap.size + 1 + 1 ≠ w.heap.size + 1 + 1 + 1; omega) _, h.2.2.2.1.setU j s,
    h.2.2.2.2.setCell (by show w.heap.size ≤ w.heap.size + 1 + 1 + 1; omega) _⟩
theorem DiffEnv.step (h : DiffEnv w xs ys o W) (hb : Below W.heap.size W W') : DiffEnv w xs ys o W' :=
  ⟨h.1.below hb h.1.lt, h.2.1.below hb h.2.1.lt, h.2.2.1.below hb h.2.2.1.lt, h.2.2.2.1.below hb h.2.2.2.1.lt, h.2.2.2.2.trans (hb.mono h.2.2.2.2.size)⟩
end
theorem sub_round (o ps ys : List Nat) (j k k' s : Nat) (hj : j < 4) (lo : o.length = 4) (lp : ps.length = 4) (ly : ys.length = 4) (hn : num 18446744073709551616 (o.take j) + num 18446744073709551616 (ys.take j) = num 18446744073709551616 (ps.take j) + k * 18446744073709551616 ^ j)
    (hs : s + ys.getD j 0 + k = ps.getD j 0 + k' * 18446744073709551616) : num 18446744073709551616 ((o.set j s).take (j + 1)) + num 18446744073709551616 (ys.take (j + 1)) = num 18446744073709551616 (ps.take (j + 1)) + k' * 18446744073709551616 ^ (j + 1) := by
  rw [num_take_set 18446744073709551616 o j _ (by omega), num_take_succ 18446744073709551616 ys j (by omega), num_take_succ 18446744073709551616 ps j (by omega), Nat.pow_succ', ← Nat.mul_assoc]
  have h := congrArg (· * 18446744073709551616 ^ j) hs
  simp only [Nat.add_mul] at h
  omega
set_option maxHeartbeats 2000000 in
theorem difference_any (X Y : Nat) (hX : X < 57896044618658097711785492504343953926634992332820282019728792003956564819968) (hY : Y ≤ 57896044618658097711785492504343953926634992332820282019728792003956564819949) (w : World) :
    Calls Try.prog 36 #[.agg (us (dg 18446744073709551616 X 4)), .agg (us (dg 18446744073709551616 Y 4))] w fun e w' => e = .returned (.agg (us (dg 18446744073709551616 ((X + (57896044618658097711785492504343953926634992332820282019728792003956564819949 - Y)) % 57896044618658097711785492504343953926634992332820282019728792003956564819949) 4))) ∧ Below w.heap.size w w' := by
  have e4 : (18446744073709551616 : Nat) ^ 4 = 115792089237316195423570985008687907853269984665640564039457584007913129639936 := by decide
  have h1 := added_any X (57896044618658097711785492504343953926634992332820282019728792003956564819949 - Y)
  have h2 := rest_any (X + (57896044618658097711785492504343953926634992332820282019728792003956564819949 - Y)) (by omega)
  have lx : (dg 18446744073709551616 X 4).length = 4 := dg_length _ _ _
  have ly : (dg 18446744073709551616 Y 4).length = 4 := dg_length _ _ _
  have dy : Dig 18446744073709551616 (dg 18446744073709551616 Y 4) := dg_dig _ _ _ (by omega)
  have ny : num 18446744073709551616 (dg 18446744073709551616 Y 4) = Y := by rw [num_dg, e4]; omega
  have hfo : ∀ o : List Nat, ∀ k, o.length = 4 → Dig 18446744073709551616 o → num 18446744073709551616 o + num 18446744073709551616 (dg 18446744073709551616 Y 4) = num 18446744073709551616 pL + k * 18446744073709551616 ^ 4 → o = dg 18446744073709551616 (57896044618658097711785492504343953926634992332820282019728792003956564819949 - Y) 4 := fun o k l d h => by
    have hb := num_lt 18446744073709551616 o d
    have np : num 18446744073709551616 pL = 57896044618658097711785492504343953926634992332820282019728792003956564819949 := by unfold pL; rw [num_dg, e4]
    rw [l, e4] at hb
    rw [ny, np, e4] at h
    refine dg_of (by omega) d l ?_
    rw [e4]
    have hk : k = 0 := by omega
    subst hk
    omega
  obtain ⟨zs, hzs⟩ : ∃ zs, zs = dg 18446744073709551616 ((X + (57896044618658097711785492504343953926634992332820282019728792003956564819949 - Y)) % 57896044618658097711785492504343953926634992332820282019728792003956564819949) 4 := ⟨_, rfl⟩
  have lz : zs.length = 4 := by rw [hzs, dg_length]
  rw [← hzs] at h2 ⊢
  generalize dg 18446744073709551616 X 4 = xs at h1 lx ⊢
  generalize dg 18446744073709551616 Y 4 = ys at ly dy hfo ny ⊢
  generalize dg 18446744073709551616 (X + (57896044618658097711785492504343953926634992332820282019728792003956564819949 - Y)) 4 = ss at h1 h2
  generalize dg 18446744073709551616 (57896044618658097711785492504343953926634992332820282019728792003956564819949 - Y) 4 = ds at h1 hfo
  have lp : pL.length = 4 := dg_length _ _ _
  have dp : Dig 18446744073709551616 pL := dg_dig _ _ _ (by omega)
  have H1 := Lib.hid h1
  have H2 := Lib.hid h2
  have HX := Lib.hid lx
  have HY := Lib.hid ly
  have HZ := Lib.hid lz
  have HP := Lib.hid lp
  have HO := Lib.hid hfo
  clear h1 h2 lx ly lz hzs lp hfo ny hX hY e4
  go_enter Try.func36, Try.ntmps36
  go_upto_region 1 with fail
  change Code.wp _ _ _ _ (((w.alloc (.cells (us xs) 39)).alloc (.cells (us ys) 39)).alloc (.cells z4 39))
  go_upto_region 2 with fail
  rw [← pL_eq]
  have hE := four_new w (us xs) (us ys) z4 (us pL) 39 39 39 38
  change Code.wp _ _ _ _ ((((w.alloc (.cells (us xs) 39)).alloc (.cells (us ys) 39)).alloc (.cells z4 39)).alloc (.cells (us pL) 38))
  generalize (((w.alloc (.cells (us xs) 39)).alloc (.cells (us ys) 39)).alloc (.cells z4 39)).alloc (.cells (us pL) 38) = w0 at hE ⊢
  have hE' : DiffEnv w xs ys pL w0 := hE
  clear hE
  obtain ⟨ps, hps⟩ : ∃ ps, ps = pL := ⟨_, rfl⟩
  rw [← hps] at hE' HP HO dp ⊢
  clear hps
  go_wp2
  go_loopw [6, 9] (fun c i wr => ∃ (j : Nat) (k : Nat) (o : List Nat), j ≤ 4 ∧ i = .int .i64 (j : Int) ∧ c = U64 k ∧ k ≤ 1 ∧ o.length = 4 ∧ Dig 18446744073709551616 o ∧ num 18446744073709551616 (o.take j) + num 18446744073709551616 (ys.take j) = num 18446744073709551616 (ps.take j) + k * 18446744073709551616 ^ j ∧ o.drop j = ps.drop j ∧ DiffEnv w xs ys o wr) (fun _ i _ => 4 - (intOf i).toNat)
  case atStart => exact ⟨0, 0, ps, by omega, rfl, rfl, by omega, HP.out, dp, by simp [num], rfl, hE'⟩
  case round =>
    clear hE' w0
    obtain ⟨j, k, o, hj, rfl, rfl, hk, lo, do', hn, hd, E⟩ := hrel
    by_cases hlt : j < 4
    · have hjb : decide ((j : Int) < 4) = true := by simp; omega
      have hj4 : ¬ ((4 : Int) ≤ (j : Int)) := by omega
      have h1 : o.getD j 0 < 18446744073709551616 := do'.getD (by omega) j
      have h2 : ys.getD j 0 < 18446744073709551616 := dy.getD (by omega) j
      have hox := getD_of_drop o ps j j hd (Nat.le_refl _)
      obtain ⟨s, k', hs, hk', hsub⟩ : ∃ s k', s < 18446744073709551616 ∧ k' ≤ 1 ∧ s + ys.getD j 0 + k = o.getD j 0 + k' * 18446744073709551616 := by
        by_cases hc : o.getD j 0 < ys.getD j 0 + k
        · exact ⟨o.getD j 0 + 18446744073709551616 - ys.getD j 0 - k, 1, by omega, by omega, by omega⟩
        · exact ⟨o.getD j 0 - ys.getD j 0 - k, 0, by omega, by omega, by omega⟩
      have hnx := sub_round o ps ys j k k' s hlt lo HP.out HY.out hn (by rw [← hox]; exact hsub)
      have hcall := sub64_eq (o.getD j 0) (ys.getD j 0) k s k' hk hs hk' h1 h2 hsub
      have hdx : (o.set j s).drop (j + 1) = ps.drop (j + 1) := by rw [drop_set_lt o j _ _ (by omega)]; exact drop_succ_of o ps j hd
      have hlo' : (o.set j s).length = 4 := by rw [List.length_set, lo]
      have hdo := do'.set j hs
      obtain ⟨a, HA⟩ : ∃ a, a = o.getD j 0 := ⟨_, rfl⟩
      obtain ⟨b, HB⟩ : ∃ b, b = ys.getD j 0 := ⟨_, rfl⟩
      rw [← HA, ← HB] at hcall
      have HC := Lib.hid hcall
      have HNX := Lib.hid hnx
      have HDX := Lib.hid hdx
      have HLO := Lib.hid hlo'
      have HDO := Lib.hid hdo
      have HL4 := Lib.hid lo
      clear hcall hnx hdx hlo' hdo hox hsub hn hd do' lo h1 h2 hs
      have c1 := E.drew.2.2.2.1.u64 j (by rw [HL4.out]; omega)
      have c2 := E.drew.2.1.u64 j (by rw [HY.out]; omega)
      rw [← HA] at c1
      rw [← HB] at c2
      clear HA HB
      have HE := Lib.hid E.drew
      clear E
      go_wp2_with fail
      refine wp_region_noPanic ?_
      refine wp_region_gate (c := 8) (S := fun w' => w'.cell? ⟨w.heap.size + 1 + 1 + 1, j, none⟩ = some (U64 a) ∧ w'.cell? ⟨w.heap.size + 1, j, none⟩ = some (U64 b)) (by kernel_rfl) ⟨c1, c2⟩ (fun hS => ?_)
      clear c1 c2
      refine takeP hS 0 13 (.int .i64 (j : Int)) _ rfl (by kernel_rfl) (by kernel_rfl) (by kernel_rfl) rfl (fun _ _ _ h => h) rfl rfl (fun w' => by go_simp) ?_
      simp only [Act.put, List.setIfInBounds_toArray, List.set_cons_zero, List.set_cons_succ]
      refine takeP hS 1 14 (.int .i64 (j : Int)) _ rfl (by kernel_rfl) (by kernel_rfl) (by kernel_rfl) rfl (fun _ _ _ h => h) rfl rfl (fun w' => by go_simp) ?_
      simp only [Act.put, List.setIfInBounds_toArray, List.set_cons_zero, List.set_cons_succ]
      refine takeP hS 2 15 (.pointer (some ⟨w.heap.size + 1 + 1 + 1, j, none⟩)) _ rfl (by kernel_rfl) (by kernel_rfl) (by kernel_rfl) rfl (fun _ _ _ h => h) rfl rfl (fun w' => by go_simp) ?_
      simp only [Act.put, List.setIfInBounds_toArray, List.set_cons_zero, List.set_cons_succ]
      refine takeG hS 3 16 (U64 a) _ rfl (by kernel_rfl) (by kernel_rfl) (by kernel_rfl) (by kernel_rfl) (fun _ _ _ h => h) rfl rfl (fun w' h => by obtain ⟨k1, k2⟩ := h; go_simp) ?_
      simp only [Act.put, List.setIfInBounds_toArray, List.set_cons_zero, List.set_cons_succ]
      refine takeP hS 4 17 (.int .i64 (j : Int)) _ rfl (by kernel_rfl) (by kernel_rfl) (by kernel_rfl) rfl (fun _ _ _ h => h) rfl rfl (fun w' => by go_simp) ?_
      simp only [Act.put, List.setIfInBounds_toArray, List.set_cons_zero, List.set_cons_succ]
      refine takeP hS 5 18 (.pointer (some ⟨w.heap.size + 1, j, none⟩)) _ rfl (by kernel_rfl) (by kernel_rfl) (by kernel_rfl) rfl (fun _ _ _ h => h) rfl rfl (fun w' => by go_simp) ?_
      simp only [Act.put, List.setIfInBounds_toArray, List.set_cons_zero, List.set_cons_succ]
      refine takeG hS 6 19 (U64 b) _ rfl (by kernel_rfl) (by kernel_rfl) (by kernel_rfl) (by kernel_rfl) (fun _ _ _ h => h) rfl rfl (fun w' h => by obtain ⟨k1, k2⟩ := h; go_simp) ?_
      simp only [Act.put, List.setIfInBounds_toArray, List.set_cons_zero, List.set_cons_succ]
      refine takeP hS 7 20 (U64 k) _ rfl (by kernel_rfl) (by kernel_rfl) (by kernel_rfl) rfl (fun _ _ _ h => h) rfl rfl (fun w' => by go_simp) ?_
      simp only [Act.put, List.setIfInBounds_toArray, List.set_cons_zero, List.set_cons_succ]
      refine gateVal 21 (.tuple #[U64 s, U64 k']) wr.drew _ (by kernel_rfl) rfl rfl rfl (by have := HC.out wr.drew; go_simp) ?_
      simp only [Act.put, List.setIfInBounds_toArray, List.set_cons_zero, List.set_cons_succ]
      clear hS
      have E := HE.out
      generalize wr.drew = w1 at E ⊢
      refine take0 9 12 (.tuple #[U64 s, U64 k']) _ rfl (by kernel_rfl) (by kernel_rfl) (by kernel_rfl) (fun _ _ _ h => h) rfl rfl (fun w' => by go_simp) ?_
      simp only [Act.put, List.setIfInBounds_toArray, List.set_cons_zero, List.set_cons_succ]
      refine take0 10 22 (U64 s) _ rfl (by kernel_rfl) (by kernel_rfl) (by kernel_rfl) (fun _ _ _ h => h) rfl rfl (fun w' => by go_simp) ?_
      simp only [Act.put, List.setIfInBounds_toArray, List.set_cons_zero, List.set_cons_succ]
      refine take0 11 23 (U64 k') _ rfl (by kernel_rfl) (by kernel_rfl) (by kernel_rfl) (fun _ _ _ h => h) rfl rfl (fun w' => by go_simp) ?_
      simp only [Act.put, List.setIfInBounds_toArray, List.set_cons_zero, List.set_cons_succ]
      refine take0 12 24 (.pointer (some ⟨w.heap.size + 1 + 1 + 1, j, none⟩)) _ rfl (by kernel_rfl) (by kernel_rfl) (by kernel_rfl) (fun _ _ _ h => h) rfl rfl (fun w' => by go_simp) ?_
      simp only [Act.put, List.setIfInBounds_toArray, List.set_cons_zero, List.set_cons_succ]
      have cc := E.2.2.2.1.u64 j (by rw [HL4.out]; omega)
      have ff := E.2.2.2.1.frozen j
      refine only0 13 (w1.setCell ⟨w.heap.size + 1 + 1 + 1, j, none⟩ (U64 s)) _ (by kernel_rfl) rfl rfl rfl (by go_simp) ?_
      clear cc ff
      replace E := E.put j s
      generalize w1.setCell ⟨w.heap.size + 1 + 1 + 1, j, none⟩ (U64 s) = w2 at E ⊢
      simp only [Act.put]
      refine take0 14 6 (U64 k') _ rfl (by kernel_rfl) (by kernel_rfl) (by kernel_rfl) (fun _ _ _ h => h) rfl rfl (fun w' => by go_simp) ?_
      simp only [Act.put, List.setIfInBounds_toArray, List.set_cons_zero, List.set_cons_succ]
      refine wpAny_end (by kernel_rfl) ?_ _
      refine NoPanic.normal ?_
      go_wp2
      go_roundw
      case rel => exact ⟨j + 1, k', _, by omega, by go_num, rfl, hk', HLO.out, HDO.out, HNX.out, HDX.out, E⟩
      case measure => simp [intOf]; omega
    · have hj4 : j = 4 := by omega
      subst hj4
      rw [show (((4 : Nat) : Int)) = 4 from rfl]
      have hjb : decide ((4 : Int) < 4) = false := by decide
      rw [show o.take 4 = o from List.take_of_length_le (by omega), show ys.take 4 = ys from List.take_of_length_le (by rw [HY.out]; omega), show ps.take 4 = ps from List.take_of_length_le (by rw [HP.out]; omega)] at hn
      have ho := HO.out o k lo do' hn
      subst ho
      have HL := Lib.hid lo
      clear lo dy dp hd hn HO do'
      go_wp2_with (first
        | (refine wpList_load_row rfl 39 (.tmp 2) rfl w.heap.size rfl 39 (us xs) (0, 0) _ E.1 Try.underlying39 rfl (infoE xs HX.out) ?_)
        | (refine wpList_load_row rfl 38 (.tmp 5) rfl (w.heap.size + 1 + 1 + 1) rfl 38 (us o) (0, 0) _ E.2.2.2.1 Try.underlying38 rfl (info4 o HL.out) ?_))
      go_at_call 37
      refine (H1.out _).mono ?_
      rintro e w3 ⟨rfl, hb⟩
      replace E := E.step hb
      clear hb H1 wr
      go_wp2_with fail
      go_at_call 31
      refine (H2.out _).mono ?_
      rintro e w4 ⟨rfl, hb⟩
      replace E := E.step hb
      clear hb H2 w3
      go_wp2_with (refine wpList_store_row rfl 39 (.tmp 4) (.tmp 29) rfl (w.heap.size + 1 + 1) (us zs) rfl rfl 39 z4 E.2.2.1 (infoE zs HZ.out) (z4_size zs HZ.out) (us_one _) ?_)
      refine bodyPost_ret (v := .agg (us zs)) (results_cell_row rfl _ _ (w.heap.size + 1 + 1) 39 (us zs) (0, 0) _ rfl (E.2.2.1.setRow _) Try.underlying39 rfl (infoE zs HZ.out)) rfl ⟨rfl, below_setRow E.2.2.2.2 (by omega) _⟩
end Go.Proofs.Ytdikkdediofieaa
