/- The walk of law CurvePlays. -/
import Derived.Test.YtdikkdediofieaaGF
import Derived.Test.YtdikkdediofieaaEO
namespace Go.Proofs.Ytdikkdediofieaa
open Go.RowKit
set_option maxRecDepth 20000 in
set_option maxHeartbeats 2000000 in
theorem curvePlaysLaw_any (a : List UInt8) (ha : a.length = 32) (b : List UInt8) (hb : b.length = 32) (w : World) :
    Calls Try.prog 6 #[.agg (bs a), .agg (bs b)] w fun e w' => e = .returned (.bool true) ∧ Below w.heap.size w w' := by
  have M : Mem w [(w.heap.size, 23, bs a), (w.heap.size + 1, 23, bs b)] ((w.alloc (.cells (bs a) 23)).alloc (.cells (bs b) 23)) := ((Mem.init w).alloc _ rfl _ _).alloc _ (by simp) _ _
  have p1 := cplace_any a ha
  have p2 := cplace_any b hb
  have p3 := mul_any a b ha hb
  have p4 := ctimes_any (placeN a) (placeN b) (placeN_lt a) (placeN_lt b)
  have p5 := ckey_any (fmul (placeN a) (placeN b))
  change ∀ w, Calls _ _ _ w (fun e w' => e = .returned (.agg (bs (mulK a b))) ∧ Below w.heap.size w w') at p5
  have p6 := inv_any a ha
  have p7 := cinv_any (placeN a) (placeN_lt a)
  have p8 := ckey_any (finv (placeN a))
  change ∀ w, Calls _ _ _ w (fun e w' => e = .returned (.agg (bs (invK a))) ∧ Below w.heap.size w w') at p8
  have lm : (mulK a b).length = 32 := lowB_length _ _
  have li : (invK a).length = 32 := lowB_length _ _
  generalize mulK a b = m at p3 p5 lm
  generalize invK a = i at p6 p8 li
  generalize fmul (placeN a) (placeN b) = t at p4 p5
  generalize finv (placeN a) = v at p7 p8
  generalize placeN a = x at p1 p4 p7
  generalize placeN b = y at p2 p4
  have P1 := Lib.hid p1
  have P2 := Lib.hid p2
  have P3 := Lib.hid p3
  have P4 := Lib.hid p4
  have P5 := Lib.hid p5
  have P6 := Lib.hid p6
  have P7 := Lib.hid p7
  have P8 := Lib.hid p8
  have Hm := Lib.hid lm
  have Hi := Lib.hid li
  have Ha := Lib.hid ha
  have Hb := Lib.hid hb
  clear p1 p2 p3 p4 p5 p6 p7 p8 lm li ha hb
  go_enter Try.func6, Try.ntmps6
  go_upto_region 1 with fail
  change Code.wp _ _ _ _ ((w.alloc (.cells (bs a) 23)).alloc (.cells (bs b) 23))
  generalize ((w.alloc (.cells (bs a) 23)).alloc (.cells (bs b) 23)) = w0 at M ⊢
  go_wp2_with fail
  go_at_call 10
  refine (awake6_any _).mono ?_
  rintro e w1 ⟨rfl, hb1⟩
  replace M := M.step hb1
  clear hb1 w0
  go_upto_region 3 with fail
  refine wp_region_noPanic ?_
  refine wp_region_flow (fin := ?fin1) 6 2 (by kernel_rfl) [.inl (.agg (bs a)),
    .inl (.agg (de x)),
    .inl (.agg (bs b)),
    .inl (.agg (de y)),
    .inr (30, z32i),
    .inr (30, z32i)] rfl rfl (by kernel_rfl) ?hfin1 ?hE1 ?hend1
  case hfin1 =>
    intro G
    simp only [flowAll, flowVal, Act.put, List.setIfInBounds_toArray, List.set_cons_zero, List.set_cons_succ]
    exact rfl
  case hE1 =>
    intro G
    refine ⟨Or.inr (fun W hB => known_val rfl (by exact load_key (.tmp 2) _ a Ha.out ((M.drew.step hB).row 0 rfl) rfl rfl)),
      Or.inr (fun W hB => known_call 16 #[.agg (bs a)] (P1.out W) rfl (by go_simp)),
      Or.inr (fun W hB => known_val rfl (by exact load_key (.tmp 3) _ b Hb.out ((M.drew.step hB).row 1 rfl) rfl rfl)),
      Or.inr (fun W hB => known_call 16 #[.agg (bs b)] (P2.out W) rfl (by go_simp)),
      ⟨rfl, fun W => alloc_de rfl⟩,
      ⟨rfl, fun W => alloc_de rfl⟩, trivial⟩
  intro G W hB hM
  replace M := M.drew.made2 hB hM 4 5 (by decide) rfl rfl rfl rfl
  simp only [List.cons_append, List.nil_append] at M
  generalize G 4 = gx at M ⊢
  generalize G 5 = gy at M ⊢
  clear hM hB G w1 P1 P2
  refine only0 6 (W.setRow gx (de x)) _ (by kernel_rfl) rfl rfl rfl (store_de (.tmp 5) (.tmp 10) gx x (M.row 2 rfl) (de_z x) rfl rfl rfl) ?_
  replace M := M.store 2 rfl (de x)
  simp only [List.set_cons_zero, List.set_cons_succ] at M
  generalize W.setRow gx (de x) = W1 at M ⊢
  simp only [Act.put]
  refine only0 7 (W1.setRow gy (de y)) _ (by kernel_rfl) rfl rfl rfl (store_de (.tmp 6) (.tmp 12) gy y (M.row 3 rfl) (de_z y) rfl rfl rfl) ?_
  replace M := M.store 3 rfl (de y)
  simp only [List.set_cons_zero, List.set_cons_succ] at M
  generalize W1.setRow gy (de y) = W2 at M ⊢
  simp only [Act.put]
  refine wpAny_end (by kernel_rfl) ?_ _
  refine NoPanic.normal ?_
  clear W W1
  go_upto_region 4 with fail
  refine wp_region_noPanic ?_
  refine wp_region_flow (fin := ?fin2) 17 0 (by kernel_rfl) [.inl (.agg (bs a)),
    .inl (.agg (bs b)),
    .inl (.agg (bs m)),
    .inl (.agg (de x)),
    .inl (.agg (de y)),
    .inl (.agg (de t)),
    .inl (.agg (bs m)),
    .inl (.bool true),
    .inl (.bool true),
    .inl (.agg (bs a)),
    .inl (.agg (bs i)),
    .inl (.agg (de x)),
    .inl (.agg (de v)),
    .inl (.agg (bs i)),
    .inl (.bool true),
    .inl (.bool true),
    .inl (.bool true)] rfl rfl (by kernel_rfl) ?hfin2 ?hE2 ?hend2
  case hfin2 =>
    intro G
    simp only [flowAll, flowVal, Act.put, List.setIfInBounds_toArray, List.set_cons_zero, List.set_cons_succ]
    exact rfl
  case hE2 =>
    intro G
    refine ⟨Or.inr (fun W hB => known_val rfl (by exact load_key (.tmp 2) _ a Ha.out ((M.drew.step hB).row 0 rfl) rfl rfl)),
      Or.inr (fun W hB => known_val rfl (by exact load_key (.tmp 3) _ b Hb.out ((M.drew.step hB).row 1 rfl) rfl rfl)),
      Or.inr (fun W hB => known_call 14 #[.agg (bs a), .agg (bs b)] (P3.out W) rfl (by go_simp)),
      Or.inr (fun W hB => known_val rfl (by exact load_de (.tmp 5) _ x ((M.drew.step hB).row 2 rfl) rfl rfl)),
      Or.inr (fun W hB => known_val rfl (by exact load_de (.tmp 6) _ y ((M.drew.step hB).row 3 rfl) rfl rfl)),
      Or.inr (fun W hB => known_call 18 #[.agg (de x), .agg (de y)] (P4.out W) rfl (by go_simp)),
      Or.inr (fun W hB => known_call 17 #[.agg (de t)] (P5.out W) rfl (by go_simp)),
      Or.inr (fun W hB => known_val rfl (by exact exec_sames (.tmp 15) (.tmp 19) m Hm.out rfl rfl rfl)),
      Or.inr (fun W hB => known_val rfl (by go_simp)),
      Or.inr (fun W hB => known_val rfl (by exact load_key (.tmp 2) _ a Ha.out ((M.drew.step hB).row 0 rfl) rfl rfl)),
      Or.inr (fun W hB => known_call 15 #[.agg (bs a)] (P6.out W) rfl (by go_simp)),
      Or.inr (fun W hB => known_val rfl (by exact load_de (.tmp 5) _ x ((M.drew.step hB).row 2 rfl) rfl rfl)),
      Or.inr (fun W hB => known_call 19 #[.agg (de x)] (P7.out W) rfl (by go_simp)),
      Or.inr (fun W hB => known_call 17 #[.agg (de v)] (P8.out W) rfl (by go_simp)),
      Or.inr (fun W hB => known_val rfl (by exact exec_sames (.tmp 23) (.tmp 26) i Hi.out rfl rfl rfl)),
      Or.inr (fun W hB => known_val rfl (by go_simp)),
      Or.inr (fun W hB => known_val rfl (by go_simp)), trivial⟩
  intro G W hB hM
  replace M := M.drew.step hB
  clear hM hB G
  refine wpAny_end (by kernel_rfl) ?_ _
  refine NoPanic.normal ?_
  go_wp2
  go_ret
  exact ⟨rfl, M.below⟩
end Go.Proofs.Ytdikkdediofieaa
