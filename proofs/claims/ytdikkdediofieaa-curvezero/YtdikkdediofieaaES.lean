/- The walk of law CurveZero. -/
import Derived.Test.YtdikkdediofieaaFD
namespace Go.Proofs.Ytdikkdediofieaa
open Go.RowKit
set_option maxRecDepth 20000 in
set_option maxHeartbeats 2000000 in
theorem zeroLaw_any (a : List UInt8) (ha : a.length = 32) (w : World) :
    Calls Try.prog 8 #[.agg (bs a)] w fun e w' => e = .returned (.bool true) ∧ Below w.heap.size w w' := by
  have M : Mem w [(w.heap.size, 23, bs a)] (w.alloc (.cells (bs a) 23)) := (Mem.init w).alloc _ rfl _ _
  have p1 := shared_any a zeroK ha rfl
  rw [sharedK_zero _ _ place_zero] at p1
  have p2 := shared_any a oneK ha rfl
  rw [sharedK_one a _ ha place_one] at p2
  have p3 := inv_any a ha
  have li : (invK a).length = 32 := lowB_length _ _
  have p4 := inv_any (invK a) li
  have p5 := mul_any a oneK ha rfl
  rw [← invK_invK] at p5
  have lm : (invK (invK a)).length = 32 := lowB_length _ _
  generalize invK (invK a) = m at p4 p5 lm
  generalize invK a = i at p3 p4 li
  have lz : zeroK.length = 32 := rfl
  have P1 := Lib.hid p1
  have P2 := Lib.hid p2
  have P3 := Lib.hid p3
  have P4 := Lib.hid p4
  have P5 := Lib.hid p5
  have Hi := Lib.hid li
  have Hm := Lib.hid lm
  have Ha := Lib.hid ha
  have HzeroK := Lib.hid lz
  clear p1 p2 p3 p4 p5 li lm ha lz
  go_enter Try.func8, Try.ntmps8
  go_upto_region 1 with fail
  change Code.wp _ _ _ _ (w.alloc (.cells (bs a) 23))
  generalize (w.alloc (.cells (bs a) 23)) = w0 at M ⊢
  go_wp2_with fail
  go_at_call 10
  refine (awake6_any _).mono ?_
  rintro e w1 ⟨rfl, hb1⟩
  replace M := M.step hb1
  clear hb1 w0
  have r1 := M.row 0 rfl
  go_wp2_with (first
    | (refine wpList_load_row rfl 23 (.tmp 1) rfl w.heap.size rfl 23 (bs a) (0, 0) _ r1 Try.underlying23 rfl (kinfo a Ha.out) ?_)
    | (refine wpList_buildTo rfl 23 _ rfl (some 7) rfl (bs zeroK) (by kernel_rfl) ?_))
  go_at_call 11
  refine (P1.out _).mono ?_
  rintro e w2 ⟨rfl, hb1⟩
  clear r1
  replace M := (M.step hb1).alloc _ rfl 23 kz
  simp only [List.cons_append, List.nil_append] at M
  clear hb1
  have rr := M.row 1 rfl
  go_upto_region 4 with (refine wpList_store_row rfl 23 (.tmp 3) (.tmp 8) rfl w2.heap.size (bs zeroK) rfl rfl 23 kz rr (kinfo zeroK HzeroK.out) (kz_size zeroK HzeroK.out) (bs_one _) ?_)
  clear rr
  replace M := M.store 1 rfl (bs zeroK)
  simp only [List.set_cons_zero, List.set_cons_succ] at M
  change Code.wp _ _ _ _ ((w2.alloc (.cells kz 23)).setRow w2.heap.size (bs zeroK))
  generalize (w2.alloc (.cells kz 23)).setRow w2.heap.size (bs zeroK) = w3 at M ⊢
  generalize w2.heap.size = g3 at M ⊢
  clear w2
  clear w1
  refine wp_region_noPanic ?_
  refine wp_region_flow (fin := ?fin1) 20 0 (by kernel_rfl) [.inl (.agg (bs zeroK)),
    .inl (.agg (bs zeroK)),
    .inl (.bool true),
    .inl (.bool true),
    .inl (.agg (bs a)),
    .inl (.agg (bs oneK)),
    .inl (.agg (bs zeroK)),
    .inl (.agg (bs zeroK)),
    .inl (.bool true),
    .inl (.bool true),
    .inl (.bool true),
    .inl (.agg (bs a)),
    .inl (.agg (bs i)),
    .inl (.agg (bs m)),
    .inl (.agg (bs a)),
    .inl (.agg (bs oneK)),
    .inl (.agg (bs m)),
    .inl (.bool true),
    .inl (.bool true),
    .inl (.bool true)] rfl rfl (by kernel_rfl) ?hfin1 ?hE1 ?hend1
  case hfin1 =>
    intro G
    simp only [flowAll, flowVal, Act.put, List.setIfInBounds_toArray, List.set_cons_zero, List.set_cons_succ]
    exact rfl
  case hE1 =>
    intro G
    refine ⟨Or.inr (fun W hB => known_val rfl (by exact load_key (.tmp 3) _ zeroK HzeroK.out ((M.drew.step hB).row 1 rfl) rfl rfl)),
      Or.inr (fun W hB => known_val rfl (by kernel_rfl)),
      Or.inr (fun W hB => known_val rfl (by exact exec_sames (.tmp 9) (.tmp 10) zeroK HzeroK.out rfl rfl rfl)),
      Or.inr (fun W hB => known_val rfl (by go_simp)),
      Or.inr (fun W hB => known_val rfl (by exact load_key (.tmp 1) _ a Ha.out ((M.drew.step hB).row 0 rfl) rfl rfl)),
      Or.inr (fun W hB => known_val rfl (by kernel_rfl)),
      Or.inr (fun W hB => known_call 11 #[.agg (bs a), .agg (bs oneK)] (P2.out W) rfl (by go_simp)),
      Or.inr (fun W hB => known_val rfl (by kernel_rfl)),
      Or.inr (fun W hB => known_val rfl (by exact exec_sames (.tmp 15) (.tmp 16) zeroK HzeroK.out rfl rfl rfl)),
      Or.inr (fun W hB => known_val rfl (by go_simp)),
      Or.inr (fun W hB => known_val rfl (by go_simp)),
      Or.inr (fun W hB => known_val rfl (by exact load_key (.tmp 1) _ a Ha.out ((M.drew.step hB).row 0 rfl) rfl rfl)),
      Or.inr (fun W hB => known_call 15 #[.agg (bs a)] (P3.out W) rfl (by go_simp)),
      Or.inr (fun W hB => known_call 15 #[.agg (bs i)] (P4.out W) rfl (by go_simp)),
      Or.inr (fun W hB => known_val rfl (by exact load_key (.tmp 1) _ a Ha.out ((M.drew.step hB).row 0 rfl) rfl rfl)),
      Or.inr (fun W hB => known_val rfl (by kernel_rfl)),
      Or.inr (fun W hB => known_call 14 #[.agg (bs a), .agg (bs oneK)] (P5.out W) rfl (by go_simp)),
      Or.inr (fun W hB => known_val rfl (by exact exec_sames (.tmp 22) (.tmp 25) m Hm.out rfl rfl rfl)),
      Or.inr (fun W hB => known_val rfl (by go_simp)),
      Or.inr (fun W hB => known_val rfl (by go_simp)), trivial⟩
  intro G W hB hM
  replace M := M.drew.step hB
  clear hM hB G
  refine wpAny_end (by kernel_rfl) ?_ _
  refine NoPanic.normal ?_
  go_wp2
  go_ret
  exact ⟨rfl, M.below⟩
end Go.Proofs.Ytdikkdediofieaa
