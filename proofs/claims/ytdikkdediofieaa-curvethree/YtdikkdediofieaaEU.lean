/- The walk of law CurveThree. -/
import Derived.Test.YtdikkdediofieaaFJ
namespace Go.Proofs.Ytdikkdediofieaa
open Go.RowKit
set_option maxRecDepth 20000 in
set_option maxHeartbeats 2000000 in
theorem threeLaw_any (a : List UInt8) (ha : a.length = 32) (b : List UInt8) (hb : b.length = 32) (c : List UInt8) (hc : c.length = 32) (w : World) :
    Calls Try.prog 9 #[.agg (bs a), .agg (bs b), .agg (bs c)] w fun e w' => e = .returned (.bool true) ∧ Below w.heap.size w w' := by
  have M : Mem w [(w.heap.size, 23, bs a), (w.heap.size + 1, 23, bs b), (w.heap.size + 1 + 1, 23, bs c)] (((w.alloc (.cells (bs a) 23)).alloc (.cells (bs b) 23)).alloc (.cells (bs c) 23)) := (((Mem.init w).alloc _ rfl _ _).alloc _ (by simp) _ _).alloc _ (by simp) _ _
  have p1 := public_any a ha
  have p2 := public_any b hb
  have p3 := public_any c hc
  have lpa : (sharedK a nineK).length = 32 := lowB_length _ _
  have lpb : (sharedK b nineK).length = 32 := lowB_length _ _
  have lpc : (sharedK c nineK).length = 32 := lowB_length _ _
  have p4 := shared_any b (sharedK c nineK) hb lpc
  have p5 := shared_any c (sharedK a nineK) hc lpa
  have p6 := shared_any a (sharedK b nineK) ha lpb
  have lbc : (sharedK b (sharedK c nineK)).length = 32 := lowB_length _ _
  have lca : (sharedK c (sharedK a nineK)).length = 32 := lowB_length _ _
  have lab : (sharedK a (sharedK b nineK)).length = 32 := lowB_length _ _
  have p7 := shared_any a (sharedK b (sharedK c nineK)) ha lbc
  have p8 := shared_any b (sharedK c (sharedK a nineK)) hb lca
  have p9 := shared_any c (sharedK a (sharedK b nineK)) hc lab
  have e8 : sharedK b (sharedK c (sharedK a nineK)) = sharedK a (sharedK b (sharedK c nineK)) := by
    rw [sharedK_comm c a nineK hc ha, sharedK_comm b a _ hb ha]
  have e9 : sharedK c (sharedK a (sharedK b nineK)) = sharedK a (sharedK b (sharedK c nineK)) := by
    rw [sharedK_comm c a _ hc ha, sharedK_comm c b nineK hc hb]
  rw [e8] at p8
  rw [e9] at p9
  have lx : (sharedK a (sharedK b (sharedK c nineK))).length = 32 := lowB_length _ _
  clear e8 e9
  generalize sharedK a (sharedK b (sharedK c nineK)) = x at p7 p8 p9 lx
  generalize sharedK b (sharedK c nineK) = bc at p4 p7 lbc
  generalize sharedK c (sharedK a nineK) = ca at p5 p8 lca
  generalize sharedK a (sharedK b nineK) = ab at p6 p9 lab
  generalize sharedK a nineK = pa at p1 p5 lpa
  generalize sharedK b nineK = pb at p2 p6 lpb
  generalize sharedK c nineK = pc at p3 p4 lpc
  have P1 := Lib.hid p1
  have P2 := Lib.hid p2
  have P3 := Lib.hid p3
  have P4 := Lib.hid p4
  have P5 := Lib.hid p5
  have P6 := Lib.hid p6
  have P7 := Lib.hid p7
  have P8 := Lib.hid p8
  have P9 := Lib.hid p9
  have Hpa := Lib.hid lpa
  have Hpb := Lib.hid lpb
  have Hpc := Lib.hid lpc
  have Hbc := Lib.hid lbc
  have Hca := Lib.hid lca
  have Hab := Lib.hid lab
  have Hx := Lib.hid lx
  have Ha := Lib.hid ha
  have Hb := Lib.hid hb
  have Hc := Lib.hid hc
  clear p1 p2 p3 p4 p5 p6 p7 p8 p9 lpa lpb lpc lbc lca lab lx ha hb hc
  go_enter Try.func9, Try.ntmps9
  go_upto_region 1 with fail
  change Code.wp _ _ _ _ (((w.alloc (.cells (bs a) 23)).alloc (.cells (bs b) 23)).alloc (.cells (bs c) 23))
  generalize (((w.alloc (.cells (bs a) 23)).alloc (.cells (bs b) 23)).alloc (.cells (bs c) 23)) = w0 at M ⊢
  go_wp2_with fail
  go_at_call 10
  refine (awake6_any _).mono ?_
  rintro e w1 ⟨rfl, hb1⟩
  replace M := M.step hb1
  clear hb1 w0
  go_wp2_with fail
  refine wp_region_noPanic ?_
  refine wp_region_flow (fin := ?fin1) 7 1 (by kernel_rfl) [.inl (.agg (bs a)),
    .inl (.agg (bs b)),
    .inl (.agg (bs c)),
    .inl (.agg (bs pc)),
    .inl (.agg (bs bc)),
    .inl (.agg (bs x)),
    .inr (23, kz)] rfl rfl (by kernel_rfl) ?hfin1 ?hE1 ?hend1
  case hfin1 =>
    intro G
    simp only [flowAll, flowVal, Act.put, List.setIfInBounds_toArray, List.set_cons_zero, List.set_cons_succ]
    exact rfl
  case hE1 =>
    intro G
    refine ⟨Or.inr (fun W hB => known_val rfl (by exact load_key (.tmp 3) _ a Ha.out ((M.drew.step hB).row 0 rfl) rfl rfl)),
      Or.inr (fun W hB => known_val rfl (by exact load_key (.tmp 4) _ b Hb.out ((M.drew.step hB).row 1 rfl) rfl rfl)),
      Or.inr (fun W hB => known_val rfl (by exact load_key (.tmp 5) _ c Hc.out ((M.drew.step hB).row 2 rfl) rfl rfl)),
      Or.inr (fun W hB => known_call 12 #[.agg (bs c)] (P3.out W) rfl (by go_simp)),
      Or.inr (fun W hB => known_call 11 #[.agg (bs b), .agg (bs pc)] (P4.out W) rfl (by go_simp)),
      Or.inr (fun W hB => known_call 11 #[.agg (bs a), .agg (bs bc)] (P7.out W) rfl (by go_simp)),
      ⟨rfl, fun W => alloc_key rfl⟩, trivial⟩
  intro G W hB hM
  replace M := M.drew.made hB hM 6 rfl rfl
  simp only [List.cons_append, List.nil_append] at M
  generalize G 6 = g7 at M ⊢
  clear hB hM G w1 P3 P4 P7
  refine only0 7 (W.setRow g7 (bs x)) _ (by kernel_rfl) rfl rfl rfl (store_key (.tmp 7) (.tmp 15) g7 x Hx.out (M.row 3 rfl) (kz_size x Hx.out) rfl rfl rfl) ?_
  replace M := M.store 3 rfl (bs x)
  simp only [List.set_cons_zero, List.set_cons_succ] at M
  generalize W.setRow g7 (bs x) = w2 at M ⊢
  simp only [Act.put]
  refine wpAny_end (by kernel_rfl) ?_ _
  refine NoPanic.normal ?_
  clear W
  go_wp2_with fail
  refine wp_region_noPanic ?_
  refine wp_region_flow (fin := ?fin2) 19 0 (by kernel_rfl) [.inl (.agg (bs x)),
    .inl (.agg (bs b)),
    .inl (.agg (bs c)),
    .inl (.agg (bs a)),
    .inl (.agg (bs pa)),
    .inl (.agg (bs ca)),
    .inl (.agg (bs x)),
    .inl (.bool true),
    .inl (.bool true),
    .inl (.agg (bs x)),
    .inl (.agg (bs c)),
    .inl (.agg (bs a)),
    .inl (.agg (bs b)),
    .inl (.agg (bs pb)),
    .inl (.agg (bs ab)),
    .inl (.agg (bs x)),
    .inl (.bool true),
    .inl (.bool true),
    .inl (.bool true)] rfl rfl (by kernel_rfl) ?hfin2 ?hE2 ?hend2
  case hfin2 =>
    intro G
    simp only [flowAll, flowVal, Act.put, List.setIfInBounds_toArray, List.set_cons_zero, List.set_cons_succ]
    exact rfl
  case hE2 =>
    intro G
    refine ⟨Or.inr (fun W hB => known_val rfl (by exact load_key (.tmp 7) _ x Hx.out ((M.drew.step hB).row 3 rfl) rfl rfl)),
      Or.inr (fun W hB => known_val rfl (by exact load_key (.tmp 4) _ b Hb.out ((M.drew.step hB).row 1 rfl) rfl rfl)),
      Or.inr (fun W hB => known_val rfl (by exact load_key (.tmp 5) _ c Hc.out ((M.drew.step hB).row 2 rfl) rfl rfl)),
      Or.inr (fun W hB => known_val rfl (by exact load_key (.tmp 3) _ a Ha.out ((M.drew.step hB).row 0 rfl) rfl rfl)),
      Or.inr (fun W hB => known_call 12 #[.agg (bs a)] (P1.out W) rfl (by go_simp)),
      Or.inr (fun W hB => known_call 11 #[.agg (bs c), .agg (bs pa)] (P5.out W) rfl (by go_simp)),
      Or.inr (fun W hB => known_call 11 #[.agg (bs b), .agg (bs ca)] (P8.out W) rfl (by go_simp)),
      Or.inr (fun W hB => known_val rfl (by exact exec_sames (.tmp 16) (.tmp 22) x Hx.out rfl rfl rfl)),
      Or.inr (fun W hB => known_val rfl (by go_simp)),
      Or.inr (fun W hB => known_val rfl (by exact load_key (.tmp 7) _ x Hx.out ((M.drew.step hB).row 3 rfl) rfl rfl)),
      Or.inr (fun W hB => known_val rfl (by exact load_key (.tmp 5) _ c Hc.out ((M.drew.step hB).row 2 rfl) rfl rfl)),
      Or.inr (fun W hB => known_val rfl (by exact load_key (.tmp 3) _ a Ha.out ((M.drew.step hB).row 0 rfl) rfl rfl)),
      Or.inr (fun W hB => known_val rfl (by exact load_key (.tmp 4) _ b Hb.out ((M.drew.step hB).row 1 rfl) rfl rfl)),
      Or.inr (fun W hB => known_call 12 #[.agg (bs b)] (P2.out W) rfl (by go_simp)),
      Or.inr (fun W hB => known_call 11 #[.agg (bs a), .agg (bs pb)] (P6.out W) rfl (by go_simp)),
      Or.inr (fun W hB => known_call 11 #[.agg (bs c), .agg (bs ab)] (P9.out W) rfl (by go_simp)),
      Or.inr (fun W hB => known_val rfl (by exact exec_sames (.tmp 25) (.tmp 31) x Hx.out rfl rfl rfl)),
      Or.inr (fun W hB => known_val rfl (by go_simp)),
      Or.inr (fun W hB => known_val rfl (by go_simp)), trivial⟩
  intro G W hB hM
  replace M := M.drew.step hB
  clear hM hB G
  refine wpAny_end (by kernel_rfl) ?_ _
  refine NoPanic.normal ?_
  go_wp2
  go_ret
  exact ⟨rfl, M.below⟩
end Go.Proofs.Ytdikkdediofieaa
