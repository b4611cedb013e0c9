/- curve.step: walked. -/
import Derived.Test.YtdikkdediofieaaEI
namespace Go.Proofs.Ytdikkdediofieaa
open Go.RowKit
theorem el_mid : el 121665 = #[.int .u64 121665, .int .u64 0, .int .u64 0, .int .u64 0] := us_word 121665 (by omega)
set_option maxRecDepth 20000 in
set_option maxHeartbeats 4000000 in
theorem step_any (X Z V T U : Nat) (hX : X < 57896044618658097711785492504343953926634992332820282019728792003956564819949) (hZ : Z < 57896044618658097711785492504343953926634992332820282019728792003956564819949) (hV : V < 57896044618658097711785492504343953926634992332820282019728792003956564819949) (hT : T < 57896044618658097711785492504343953926634992332820282019728792003956564819949) (hU : U < 57896044618658097711785492504343953926634992332820282019728792003956564819949) (w : World) :
    Calls Try.prog 30 #[.agg (pt X Z), .agg (pt V T), .agg (el U)] w fun e w' => e = .returned (.tuple #[.agg (pt (stepT U ⟨X, Z, V, T⟩).x (stepT U ⟨X, Z, V, T⟩).z), .agg (pt (stepT U ⟨X, Z, V, T⟩).w (stepT U ⟨X, Z, V, T⟩).t)]) ∧ Below w.heap.size w w' := by
  obtain ⟨e, he⟩ : ∃ e, e = fadd X Z := ⟨_, rfl⟩
  have le : e < 57896044618658097711785492504343953926634992332820282019728792003956564819949 := by rw [he]; exact fadd_lt _ _
  have ce := sum_el X Z hX hZ
  rw [← he] at ce
  obtain ⟨g, hg⟩ : ∃ g, g = fsub X Z := ⟨_, rfl⟩
  have lg : g < 57896044618658097711785492504343953926634992332820282019728792003956564819949 := by rw [hg]; exact fsub_lt _ _
  have cg := difference_el X Z hX hZ
  rw [← hg] at cg
  obtain ⟨f, hf⟩ : ∃ f, f = fmul e e := ⟨_, rfl⟩
  have lf : f < 57896044618658097711785492504343953926634992332820282019728792003956564819949 := by rw [hf]; exact fmul_lt _ _
  have cf := square_el e le
  rw [← hf] at cf
  obtain ⟨h, hh⟩ : ∃ h, h = fmul g g := ⟨_, rfl⟩
  have lh : h < 57896044618658097711785492504343953926634992332820282019728792003956564819949 := by rw [hh]; exact fmul_lt _ _
  have ch := square_el g lg
  rw [← hh] at ch
  obtain ⟨i, hi⟩ : ∃ i, i = fsub f h := ⟨_, rfl⟩
  have li : i < 57896044618658097711785492504343953926634992332820282019728792003956564819949 := by rw [hi]; exact fsub_lt _ _
  have ci := difference_el f h lf lh
  rw [← hi] at ci
  obtain ⟨d, hd⟩ : ∃ d, d = fsub V T := ⟨_, rfl⟩
  have ld : d < 57896044618658097711785492504343953926634992332820282019728792003956564819949 := by rw [hd]; exact fsub_lt _ _
  have cd := difference_el V T hV hT
  rw [← hd] at cd
  obtain ⟨j, hj⟩ : ∃ j, j = fmul d e := ⟨_, rfl⟩
  have lj : j < 57896044618658097711785492504343953926634992332820282019728792003956564819949 := by rw [hj]; exact fmul_lt _ _
  have cj := product_el d e ld le
  rw [← hj] at cj
  obtain ⟨s, hs⟩ : ∃ s, s = fadd V T := ⟨_, rfl⟩
  have ls : s < 57896044618658097711785492504343953926634992332820282019728792003956564819949 := by rw [hs]; exact fadd_lt _ _
  have cs := sum_el V T hV hT
  rw [← hs] at cs
  obtain ⟨k, hk⟩ : ∃ k, k = fmul s g := ⟨_, rfl⟩
  have lk : k < 57896044618658097711785492504343953926634992332820282019728792003956564819949 := by rw [hk]; exact fmul_lt _ _
  have ck := product_el s g ls lg
  rw [← hk] at ck
  obtain ⟨p, hp⟩ : ∃ p, p = fadd j k := ⟨_, rfl⟩
  have lp : p < 57896044618658097711785492504343953926634992332820282019728792003956564819949 := by rw [hp]; exact fadd_lt _ _
  have cp := sum_el j k lj lk
  rw [← hp] at cp
  obtain ⟨w', hw'⟩ : ∃ w', w' = fmul p p := ⟨_, rfl⟩
  have lw' : w' < 57896044618658097711785492504343953926634992332820282019728792003956564819949 := by rw [hw']; exact fmul_lt _ _
  have cw' := square_el p lp
  rw [← hw'] at cw'
  obtain ⟨q, hq⟩ : ∃ q, q = fsub j k := ⟨_, rfl⟩
  have lq : q < 57896044618658097711785492504343953926634992332820282019728792003956564819949 := by rw [hq]; exact fsub_lt _ _
  have cq := difference_el j k lj lk
  rw [← hq] at cq
  obtain ⟨r, hr⟩ : ∃ r, r = fmul q q := ⟨_, rfl⟩
  have lr : r < 57896044618658097711785492504343953926634992332820282019728792003956564819949 := by rw [hr]; exact fmul_lt _ _
  have cr := square_el q lq
  rw [← hr] at cr
  obtain ⟨t', ht'⟩ : ∃ t', t' = fmul U r := ⟨_, rfl⟩
  have lt' : t' < 57896044618658097711785492504343953926634992332820282019728792003956564819949 := by rw [ht']; exact fmul_lt _ _
  have ct' := product_el U r hU lr
  rw [← ht'] at ct'
  obtain ⟨x', hx'⟩ : ∃ x', x' = fmul f h := ⟨_, rfl⟩
  have lx' : x' < 57896044618658097711785492504343953926634992332820282019728792003956564819949 := by rw [hx']; exact fmul_lt _ _
  have cx' := product_el f h lf lh
  rw [← hx'] at cx'
  obtain ⟨m, hm⟩ : ∃ m, m = fmul 121665 i := ⟨_, rfl⟩
  have lm : m < 57896044618658097711785492504343953926634992332820282019728792003956564819949 := by rw [hm]; exact fmul_lt _ _
  have cm := product_el 121665 i (by omega) li
  rw [← hm] at cm
  obtain ⟨n, hn⟩ : ∃ n, n = fadd f m := ⟨_, rfl⟩
  have ln : n < 57896044618658097711785492504343953926634992332820282019728792003956564819949 := by rw [hn]; exact fadd_lt _ _
  have cn := sum_el f m lf lm
  rw [← hn] at cn
  obtain ⟨z', hz'⟩ : ∃ z', z' = fmul i n := ⟨_, rfl⟩
  have lz' : z' < 57896044618658097711785492504343953926634992332820282019728792003956564819949 := by rw [hz']; exact fmul_lt _ _
  have cz' := product_el i n li ln
  rw [← hz'] at cz'
  have hst : stepT U ⟨X, Z, V, T⟩ = ⟨x', z', w', t'⟩ := by
    subst hz' hn hm hx' ht' hr hq hw' hp hk hs hj hd hi hh hf hg he
    rfl
  rw [hst]
  rw [el_mid] at cm
  have Ce := Lib.hid ce
  have Cg := Lib.hid cg
  have Cf := Lib.hid cf
  have Ch := Lib.hid ch
  have Ci := Lib.hid ci
  have Cd := Lib.hid cd
  have Cj := Lib.hid cj
  have Cs := Lib.hid cs
  have Ck := Lib.hid ck
  have Cp := Lib.hid cp
  have Cw' := Lib.hid cw'
  have Cq := Lib.hid cq
  have Cr := Lib.hid cr
  have Ct' := Lib.hid ct'
  have Cx' := Lib.hid cx'
  have Cm := Lib.hid cm
  have Cn := Lib.hid cn
  have Cz' := Lib.hid cz'
  clear hst hX hZ hV hT hU ce cg cf ch ci cd cj cs ck cp cw' cq cr ct' cx' cm cn cz' lz' ln lm lx' lt' lr lq lw' lp lk ls lj ld li lh lf lg le hz' hn hm hx' ht' hr hq hw' hp hk hs hj hd hi hh hf hg he
  have M0 : Mem w [(w.heap.size, 41, pt X Z), (w.heap.size + 1, 41, pt V T), (w.heap.size + 1 + 1, 39, el U), (w.heap.size + 1 + 1 + 1, 41, z8w), (w.heap.size + 1 + 1 + 1 + 1, 41, z8w)]
      (((((w.alloc (.cells (pt X Z) 41)).alloc (.cells (pt V T) 41)).alloc (.cells (el U) 39)).alloc (.cells z8w 41)).alloc (.cells z8w 41)) :=
    (((((Mem.init w).alloc _ rfl _ _).alloc _ (by simp) _ _).alloc _ (by simp) _ _).alloc _ (by simp) _ _).alloc _ (by simp) _ _
  go_enter Try.func30, Try.ntmps30
  go_upto_region 1 with fail
  change Code.wp _ _ _ _ (((((w.alloc (.cells (pt X Z) 41)).alloc (.cells (pt V T) 41)).alloc (.cells (el U) 39)).alloc (.cells z8w 41)).alloc (.cells z8w 41))
  generalize ((((w.alloc (.cells (pt X Z) 41)).alloc (.cells (pt V T) 41)).alloc (.cells (el U) 39)).alloc (.cells z8w 41)).alloc (.cells z8w 41) = w0 at M0 ⊢
  refine wp_region_noPanic ?_
  refine wp_region_flow (fin := ?fin1) 12 2 (by kernel_rfl) [.inl (.pointer (some ⟨w.heap.size, 0, none⟩)),
    .inl (.agg (el X)),
    .inl (.pointer (some ⟨w.heap.size, 4, none⟩)),
    .inl (.agg (el Z)),
    .inl (.agg (el e)),
    .inl (.pointer (some ⟨w.heap.size, 0, none⟩)),
    .inl (.agg (el X)),
    .inl (.pointer (some ⟨w.heap.size, 4, none⟩)),
    .inl (.agg (el Z)),
    .inl (.agg (el g)),
    .inr (39, z4),
    .inr (39, z4)] rfl rfl (by kernel_rfl) ?hfin1 ?hE1 ?hend1
  case hfin1 =>
    intro G
    simp only [flowAll, flowVal, Act.put, List.setIfInBounds_toArray, List.set_cons_zero, List.set_cons_succ]
    exact rfl
  case hE1 =>
    intro G
    refine ⟨Or.inr (fun W hB => known_val rfl (by go_simp)),
      Or.inr (fun W hB => known_val rfl (by exact load_fst (.tmp 15) _ X Z ((M0.drew.step hB).row 0 rfl) rfl rfl)),
      Or.inr (fun W hB => known_val rfl (by go_simp)),
      Or.inr (fun W hB => known_val rfl (by exact load_snd (.tmp 17) _ X Z ((M0.drew.step hB).row 0 rfl) rfl rfl)),
      Or.inr (fun W hB => known_call 35 #[.agg (el X), .agg (el Z)] (Ce.out W) rfl (by go_simp)),
      Or.inr (fun W hB => known_val rfl (by go_simp)),
      Or.inr (fun W hB => known_val rfl (by exact load_fst (.tmp 20) _ X Z ((M0.drew.step hB).row 0 rfl) rfl rfl)),
      Or.inr (fun W hB => known_val rfl (by go_simp)),
      Or.inr (fun W hB => known_val rfl (by exact load_snd (.tmp 22) _ X Z ((M0.drew.step hB).row 0 rfl) rfl rfl)),
      Or.inr (fun W hB => known_call 36 #[.agg (el X), .agg (el Z)] (Cg.out W) rfl (by go_simp)),
      ⟨rfl, fun W => alloc_el rfl⟩,
      ⟨rfl, fun W => alloc_el rfl⟩, trivial⟩
  intro G W hB hM
  have M1 := M0.drew.made2 hB hM 10 11 (by decide) rfl rfl rfl rfl
  simp only [List.cons_append, List.nil_append] at M1
  generalize G 10 = g8 at M1 ⊢
  generalize G 11 = g9 at M1 ⊢
  clear hM hB M0 w0 G
  refine only0 12 (W.setRow g8 (el e)) _ (by kernel_rfl) rfl rfl rfl (store_el (.tmp 8) (.tmp 19) g8 e (M1.row 5 rfl) (el_z4 e) rfl rfl rfl) ?_
  replace M1 := M1.store 5 rfl (el e)
  simp only [List.set_cons_zero, List.set_cons_succ] at M1
  generalize W.setRow g8 (el e) = W1 at M1 ⊢
  simp only [Act.put]
  refine only0 13 (W1.setRow g9 (el g)) _ (by kernel_rfl) rfl rfl rfl (store_el (.tmp 9) (.tmp 24) g9 g (M1.row 6 rfl) (el_z4 g) rfl rfl rfl) ?_
  replace M1 := M1.store 6 rfl (el g)
  simp only [List.set_cons_zero, List.set_cons_succ] at M1
  generalize W1.setRow g9 (el g) = W2 at M1 ⊢
  simp only [Act.put]
  refine wpAny_end (by kernel_rfl) ?_ _
  refine NoPanic.normal ?_
  clear Ce Cg W W1
  go_wp2_with fail
  refine wp_region_noPanic ?_
  refine wp_region_flow (fin := ?fin2) 6 2 (by kernel_rfl) [.inl (.agg (el e)),
    .inl (.agg (el f)),
    .inl (.agg (el g)),
    .inl (.agg (el h)),
    .inr (39, z4),
    .inr (39, z4)] rfl rfl (by kernel_rfl) ?hfin2 ?hE2 ?hend2
  case hfin2 =>
    intro G
    simp only [flowAll, flowVal, Act.put, List.setIfInBounds_toArray, List.set_cons_zero, List.set_cons_succ]
    exact rfl
  case hE2 =>
    intro G
    refine ⟨Or.inr (fun W hB => known_val rfl (by exact load_el (.tmp 8) _ e ((M1.drew.step hB).row 5 rfl) rfl rfl)),
      Or.inr (fun W hB => known_call 34 #[.agg (el e)] (Cf.out W) rfl (by go_simp)),
      Or.inr (fun W hB => known_val rfl (by exact load_el (.tmp 9) _ g ((M1.drew.step hB).row 6 rfl) rfl rfl)),
      Or.inr (fun W hB => known_call 34 #[.agg (el g)] (Ch.out W) rfl (by go_simp)),
      ⟨rfl, fun W => alloc_el rfl⟩,
      ⟨rfl, fun W => alloc_el rfl⟩, trivial⟩
  intro G W hB hM
  replace M1 := M1.drew.made2 hB hM 4 5 (by decide) rfl rfl rfl rfl
  simp only [List.cons_append, List.nil_append] at M1
  generalize G 4 = g10 at M1 ⊢
  generalize G 5 = g11 at M1 ⊢
  clear hM hB G
  refine only0 6 (W.setRow g10 (el f)) _ (by kernel_rfl) rfl rfl rfl (store_el (.tmp 10) (.tmp 26) g10 f (M1.row 7 rfl) (el_z4 f) rfl rfl rfl) ?_
  replace M1 := M1.store 7 rfl (el f)
  simp only [List.set_cons_zero, List.set_cons_succ] at M1
  generalize W.setRow g10 (el f) = W3 at M1 ⊢
  simp only [Act.put]
  refine only0 7 (W3.setRow g11 (el h)) _ (by kernel_rfl) rfl rfl rfl (store_el (.tmp 11) (.tmp 28) g11 h (M1.row 8 rfl) (el_z4 h) rfl rfl rfl) ?_
  replace M1 := M1.store 8 rfl (el h)
  simp only [List.set_cons_zero, List.set_cons_succ] at M1
  generalize W3.setRow g11 (el h) = W4 at M1 ⊢
  simp only [Act.put]
  refine wpAny_end (by kernel_rfl) ?_ _
  refine NoPanic.normal ?_
  clear W W3
  clear Cf Ch W2
  have hr10 := M1.row 7 rfl
  have hr11 := M1.row 8 rfl
  go_wp2_with (first
    | (refine wpList_load_row rfl 39 (.tmp 10) rfl g10 rfl 39 (el f) (0, 0) _ hr10 Try.underlying39 rfl (el_info f) ?_)
    | (refine wpList_load_row rfl 39 (.tmp 11) rfl g11 rfl 39 (el h) (0, 0) _ hr11 Try.underlying39 rfl (el_info h) ?_))
  go_at_call 36
  refine (Ci.out _).mono ?_
  rintro e0 W5 ⟨rfl, hb⟩
  clear hr10 hr11
  replace M1 := (M1.step hb).alloc _ rfl 39 z4
  simp only [List.cons_append, List.nil_append] at M1
  clear hb Ci
  have hr12 := M1.row 9 rfl
  go_upto_region 4 with (refine wpList_store_row rfl 39 (.tmp 12) (.tmp 31) rfl W5.heap.size (el i) rfl rfl 39 z4 hr12 (el_info i) (el_z4 i) (us_one _) ?_)
  clear hr12
  replace M1 := M1.store 9 rfl (el i)
  simp only [List.set_cons_zero, List.set_cons_succ] at M1
  change Code.wp _ _ _ _ ((W5.alloc (.cells z4 39)).setRow W5.heap.size (el i))
  generalize (W5.alloc (.cells z4 39)).setRow W5.heap.size (el i) = W6 at M1 ⊢
  generalize W5.heap.size = g12 at M1 ⊢
  clear W5 W4
  refine wp_region_noPanic ?_
  refine wp_region_flow (fin := ?fin3) 16 2 (by kernel_rfl) [.inl (.pointer (some ⟨w.heap.size + 1, 0, none⟩)),
    .inl (.agg (el V)),
    .inl (.pointer (some ⟨w.heap.size + 1, 4, none⟩)),
    .inl (.agg (el T)),
    .inl (.agg (el d)),
    .inl (.agg (el e)),
    .inl (.agg (el j)),
    .inl (.pointer (some ⟨w.heap.size + 1, 0, none⟩)),
    .inl (.agg (el V)),
    .inl (.pointer (some ⟨w.heap.size + 1, 4, none⟩)),
    .inl (.agg (el T)),
    .inl (.agg (el s)),
    .inl (.agg (el g)),
    .inl (.agg (el k)),
    .inr (39, z4),
    .inr (39, z4)] rfl rfl (by kernel_rfl) ?hfin3 ?hE3 ?hend3
  case hfin3 =>
    intro G
    simp only [flowAll, flowVal, Act.put, List.setIfInBounds_toArray, List.set_cons_zero, List.set_cons_succ]
    exact rfl
  case hE3 =>
    intro G
    refine ⟨Or.inr (fun W hB => known_val rfl (by go_simp)),
      Or.inr (fun W hB => known_val rfl (by exact load_fst (.tmp 32) _ V T ((M1.drew.step hB).row 1 rfl) rfl rfl)),
      Or.inr (fun W hB => known_val rfl (by go_simp)),
      Or.inr (fun W hB => known_val rfl (by exact load_snd (.tmp 34) _ V T ((M1.drew.step hB).row 1 rfl) rfl rfl)),
      Or.inr (fun W hB => known_call 36 #[.agg (el V), .agg (el T)] (Cd.out W) rfl (by go_simp)),
      Or.inr (fun W hB => known_val rfl (by exact load_el (.tmp 8) _ e ((M1.drew.step hB).row 5 rfl) rfl rfl)),
      Or.inr (fun W hB => known_call 24 #[.agg (el d), .agg (el e)] (Cj.out W) rfl (by go_simp)),
      Or.inr (fun W hB => known_val rfl (by go_simp)),
      Or.inr (fun W hB => known_val rfl (by exact load_fst (.tmp 39) _ V T ((M1.drew.step hB).row 1 rfl) rfl rfl)),
      Or.inr (fun W hB => known_val rfl (by go_simp)),
      Or.inr (fun W hB => known_val rfl (by exact load_snd (.tmp 41) _ V T ((M1.drew.step hB).row 1 rfl) rfl rfl)),
      Or.inr (fun W hB => known_call 35 #[.agg (el V), .agg (el T)] (Cs.out W) rfl (by go_simp)),
      Or.inr (fun W hB => known_val rfl (by exact load_el (.tmp 9) _ g ((M1.drew.step hB).row 6 rfl) rfl rfl)),
      Or.inr (fun W hB => known_call 24 #[.agg (el s), .agg (el g)] (Ck.out W) rfl (by go_simp)),
      ⟨rfl, fun W => alloc_el rfl⟩,
      ⟨rfl, fun W => alloc_el rfl⟩, trivial⟩
  intro G W hB hM
  replace M1 := M1.drew.made2 hB hM 14 15 (by decide) rfl rfl rfl rfl
  simp only [List.cons_append, List.nil_append] at M1
  generalize G 14 = g13 at M1 ⊢
  generalize G 15 = g14 at M1 ⊢
  clear hM hB G
  refine only0 16 (W.setRow g13 (el j)) _ (by kernel_rfl) rfl rfl rfl (store_el (.tmp 13) (.tmp 38) g13 j (M1.row 10 rfl) (el_z4 j) rfl rfl rfl) ?_
  replace M1 := M1.store 10 rfl (el j)
  simp only [List.set_cons_zero, List.set_cons_succ] at M1
  generalize W.setRow g13 (el j) = W3 at M1 ⊢
  simp only [Act.put]
  refine only0 17 (W3.setRow g14 (el k)) _ (by kernel_rfl) rfl rfl rfl (store_el (.tmp 14) (.tmp 45) g14 k (M1.row 11 rfl) (el_z4 k) rfl rfl rfl) ?_
  replace M1 := M1.store 11 rfl (el k)
  simp only [List.set_cons_zero, List.set_cons_succ] at M1
  generalize W3.setRow g14 (el k) = W4 at M1 ⊢
  simp only [Act.put]
  refine wpAny_end (by kernel_rfl) ?_ _
  refine NoPanic.normal ?_
  clear W W3
  clear Cd Cj Cs Ck W6
  go_wp2_with fail
  refine wp_region_noPanic ?_
  refine wp_region_flow (fin := ?fin4) 11 1 (by kernel_rfl) [.inl (.agg (el j)),
    .inl (.agg (el k)),
    .inl (.agg (el p)),
    .inl (.agg (el w')),
    .inl (.agg (el U)),
    .inl (.agg (el j)),
    .inl (.agg (el k)),
    .inl (.agg (el q)),
    .inl (.agg (el r)),
    .inl (.agg (el t')),
    .inl (.agg (pt w' t'))] rfl rfl (by kernel_rfl) ?hfin4 ?hE4 ?hend4
  case hfin4 =>
    intro G
    simp only [flowAll, flowVal, Act.put, List.setIfInBounds_toArray, List.set_cons_zero, List.set_cons_succ]
    exact rfl
  case hE4 =>
    intro G
    refine ⟨Or.inr (fun W hB => known_val rfl (by exact load_el (.tmp 13) _ j ((M1.drew.step hB).row 10 rfl) rfl rfl)),
      Or.inr (fun W hB => known_val rfl (by exact load_el (.tmp 14) _ k ((M1.drew.step hB).row 11 rfl) rfl rfl)),
      Or.inr (fun W hB => known_call 35 #[.agg (el j), .agg (el k)] (Cp.out W) rfl (by go_simp)),
      Or.inr (fun W hB => known_call 34 #[.agg (el p)] (Cw'.out W) rfl (by go_simp)),
      Or.inr (fun W hB => known_val rfl (by exact load_el (.tmp 5) _ U ((M1.drew.step hB).row 2 rfl) rfl rfl)),
      Or.inr (fun W hB => known_val rfl (by exact load_el (.tmp 13) _ j ((M1.drew.step hB).row 10 rfl) rfl rfl)),
      Or.inr (fun W hB => known_val rfl (by exact load_el (.tmp 14) _ k ((M1.drew.step hB).row 11 rfl) rfl rfl)),
      Or.inr (fun W hB => known_call 36 #[.agg (el j), .agg (el k)] (Cq.out W) rfl (by go_simp)),
      Or.inr (fun W hB => known_call 34 #[.agg (el q)] (Cr.out W) rfl (by go_simp)),
      Or.inr (fun W hB => known_call 24 #[.agg (el U), .agg (el r)] (Ct'.out W) rfl (by go_simp)),
      Or.inr (fun W hB => known_val rfl (by exact build_pt w' t' (.tmp 49) (.tmp 55) rfl rfl rfl)), trivial⟩
  intro G W hB hM
  replace M1 := M1.drew.step hB
  clear hM hB G
  refine only0 11 (W.setRow (w.heap.size + 1) (pt w' t')) _ (by kernel_rfl) rfl rfl rfl (store_pt (.tmp 4) (.tmp 56) (w.heap.size + 1) w' t' (M1.row 1 rfl) (pt_size V T w' t') rfl rfl rfl) ?_
  replace M1 := M1.store 1 rfl (pt w' t')
  simp only [List.set_cons_zero, List.set_cons_succ] at M1
  generalize W.setRow (w.heap.size + 1) (pt w' t') = W7 at M1 ⊢
  simp only [Act.put]
  refine wpAny_end (by kernel_rfl) ?_ _
  refine NoPanic.normal ?_
  clear W
  clear Cp Cw' Cq Cr Ct' W4
  go_wp2_with fail
  refine wp_region_noPanic ?_
  refine wp_region_flow (fin := ?fin5) 11 1 (by kernel_rfl) [.inl (.agg (el f)),
    .inl (.agg (el h)),
    .inl (.agg (el x')),
    .inl (.agg (el i)),
    .inl (.agg (el f)),
    .inl (.agg #[.int .u64 121665, .int .u64 0, .int .u64 0, .int .u64 0]),
    .inl (.agg (el i)),
    .inl (.agg (el m)),
    .inl (.agg (el n)),
    .inl (.agg (el z')),
    .inl (.agg (pt x' z'))] rfl rfl (by kernel_rfl) ?hfin5 ?hE5 ?hend5
  case hfin5 =>
    intro G
    simp only [flowAll, flowVal, Act.put, List.setIfInBounds_toArray, List.set_cons_zero, List.set_cons_succ]
    exact rfl
  case hE5 =>
    intro G
    refine ⟨Or.inr (fun W hB => known_val rfl (by exact load_el (.tmp 10) _ f ((M1.drew.step hB).row 7 rfl) rfl rfl)),
      Or.inr (fun W hB => known_val rfl (by exact load_el (.tmp 11) _ h ((M1.drew.step hB).row 8 rfl) rfl rfl)),
      Or.inr (fun W hB => known_call 24 #[.agg (el f), .agg (el h)] (Cx'.out W) rfl (by go_simp)),
      Or.inr (fun W hB => known_val rfl (by exact load_el (.tmp 12) _ i ((M1.drew.step hB).row 9 rfl) rfl rfl)),
      Or.inr (fun W hB => known_val rfl (by exact load_el (.tmp 10) _ f ((M1.drew.step hB).row 7 rfl) rfl rfl)),
      Or.inr (fun W hB => known_val rfl (by go_simp)),
      Or.inr (fun W hB => known_val rfl (by exact load_el (.tmp 12) _ i ((M1.drew.step hB).row 9 rfl) rfl rfl)),
      Or.inr (fun W hB => known_call 24 #[.agg #[.int .u64 121665, .int .u64 0, .int .u64 0, .int .u64 0], .agg (el i)] (Cm.out W) rfl (by go_simp)),
      Or.inr (fun W hB => known_call 35 #[.agg (el f), .agg (el m)] (Cn.out W) rfl (by go_simp)),
      Or.inr (fun W hB => known_call 24 #[.agg (el i), .agg (el n)] (Cz'.out W) rfl (by go_simp)),
      Or.inr (fun W hB => known_val rfl (by exact build_pt x' z' (.tmp 59) (.tmp 66) rfl rfl rfl)), trivial⟩
  intro G W hB hM
  replace M1 := M1.drew.step hB
  clear hM hB G
  refine only0 11 (W.setRow w.heap.size (pt x' z')) _ (by kernel_rfl) rfl rfl rfl (store_pt (.tmp 3) (.tmp 67) w.heap.size x' z' (M1.row 0 rfl) (pt_size X Z x' z') rfl rfl rfl) ?_
  replace M1 := M1.store 0 rfl (pt x' z')
  simp only [List.set_cons_zero] at M1
  generalize W.setRow w.heap.size (pt x' z') = W8 at M1 ⊢
  simp only [Act.put]
  refine wpAny_end (by kernel_rfl) ?_ _
  refine NoPanic.normal ?_
  clear W
  clear Cx' Cm Cn Cz' W7
  go_wp2_with fail
  refine wp_region_noPanic ?_
  refine wp_region_held_drew (S := fun Y => Has Y w.heap.size 41 (pt x' z') ∧ Has Y (w.heap.size + 1) 41 (pt w' t')) (by kernel_rfl) ⟨M1.drew.row 0 rfl, M1.drew.row 1 rfl⟩ (fun hS => ?_)
  refine take1 hS 0 68 (.agg (pt x' z')) _ rfl (by kernel_rfl) (by kernel_rfl) (by kernel_rfl) (fun _ _ _ h => h) rfl rfl (fun Y h => load_pt (.tmp 3) w.heap.size x' z' h.1 rfl rfl) ?_
  simp only [Act.put, List.setIfInBounds_toArray, List.set_cons_zero, List.set_cons_succ]
  refine take1 hS 1 69 (.agg (pt w' t')) _ rfl (by kernel_rfl) (by kernel_rfl) (by kernel_rfl) (fun _ _ _ h => h) rfl rfl (fun Y h => load_pt (.tmp 4) (w.heap.size + 1) w' t' h.2 rfl rfl) ?_
  simp only [Act.put, List.setIfInBounds_toArray, List.set_cons_zero, List.set_cons_succ]
  clear hS
  replace M1 := M1.drew
  generalize W8.drew = W9 at M1 ⊢
  have M2 := M1.store 3 rfl (pt x' z')
  simp only [List.set_cons_zero, List.set_cons_succ] at M2
  refine onlySkip 2 (W9.setRow (w.heap.size + 1 + 1 + 1) (pt x' z')) _ (by kernel_rfl) rfl rfl rfl (store_pt (.tmp 6) (.tmp 68) (w.heap.size + 1 + 1 + 1) x' z' (M1.row 3 rfl) (pt_z8 x' z') rfl rfl rfl) ⟨M2.row 0 rfl, M2.row 1 rfl⟩ ?_
  clear M1
  generalize W9.setRow (w.heap.size + 1 + 1 + 1) (pt x' z') = W10 at M2 ⊢
  simp only [Act.put]
  have M3 := M2.store 4 rfl (pt w' t')
  simp only [List.set_cons_zero, List.set_cons_succ] at M3
  refine onlySkip 3 (W10.setRow (w.heap.size + 1 + 1 + 1 + 1) (pt w' t')) _ (by kernel_rfl) rfl rfl rfl (store_pt (.tmp 7) (.tmp 69) (w.heap.size + 1 + 1 + 1 + 1) w' t' (M2.row 4 rfl) (pt_z8 w' t') rfl rfl rfl) ⟨M3.row 0 rfl, M3.row 1 rfl⟩ ?_
  simp only [Act.put]
  refine wpAnyH_done (by kernel_rfl) ?_ _
  refine NoPanic.normal ?_
  clear M2
  generalize W10.setRow (w.heap.size + 1 + 1 + 1 + 1) (pt w' t') = W11 at M3 ⊢
  go_wp2
  refine bodyPost_ret (v := .tuple #[.agg (pt x' z'), .agg (pt w' t')]) (results_two_rows rfl _ _ (w.heap.size + 1 + 1 + 1) (w.heap.size + 1 + 1 + 1 + 1) 41 41 (pt x' z') (pt w' t') _ _ rfl (M3.row 3 rfl) Try.underlying41 rfl (pt_info x' z') rfl (M3.row 4 rfl) Try.underlying41 rfl (pt_info w' t')) rfl ⟨rfl, M3.below⟩
end Go.Proofs.Ytdikkdediofieaa
