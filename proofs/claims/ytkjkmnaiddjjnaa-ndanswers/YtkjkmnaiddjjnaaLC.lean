/- nd.rightOp, start, mark, sizes, addresses, station, sum: walked. -/
import Derived.Test.YtkjkmnaiddjjnaaLB
import Derived.Deep.RegionHeld3
namespace Go.Proofs.Ytkjkmnaiddjjnaa
open Go.RowKit
theorem rightOp10_any (k : Int) (w : World) : Calls Try.prog 15 #[.int .i64 k] w fun e w' => e = .returned (.bool (rightO k)) ∧ w' = w := by
  unfold rightO
  go_enter Try.func15, Try.ntmps15
  by_cases h0 : k = 1
  · go_wp2
    go_ret
    exact ⟨ret_bool (by simp [h0]), rfl⟩
  · by_cases h1 : k = 2
    · go_wp2
      go_ret
      exact ⟨ret_bool (by simp [h1]), rfl⟩
    · go_wp2
      go_ret
      exact ⟨ret_bool (by simp [h0, h1]), rfl⟩
theorem fourN (n : Nat) (h : n < 4294967296) (w : World) : Calls Try.prog 28 #[.int .i64 (n : Int)] w fun e w' => e = .returned (.string ⟨(beTail n 4).toArray⟩) ∧ Below w.heap.size w w' := by
  have hc := fun W => number_any (n : Int) 4 (by omega) (by omega) (by omega) (by omega) W
  have e : numL (n : Int) 4 = beTail n 4 := by
    unfold numL
    rw [if_pos ⟨by omega, by show (n : Int) < 4294967296; omega⟩, Int.toNat_natCast]
  rw [e] at hc
  have HC := Lib.hid hc
  clear hc
  go_enter Try.func28, Try.ntmps28
  go_wp2_with (go_at_call 33; refine (HC.out _).mono ?_; rintro e w1 ⟨rfl, hb⟩)
  go_ret
  exact ⟨rfl, hb⟩
theorem u8_conv (n : Nat) : IntKind.u8.wrap (n : Int) = ((UInt8.ofNat n).toNat : Int) := by
  rw [UInt8.toNat_ofNat']
  show (n : Int) % 256 = _
  omega
set_option maxHeartbeats 1000000 in
theorem start_any (k : Nat) (hk : k < 100) (w : World) : Calls Try.prog 16 #[.int .i64 (k : Int)] w fun e w' => e = .returned (.string ⟨(startL k).toArray⟩) ∧ Below w.heap.size w w' := by
  unfold startL
  have hz : IntKind.i64.wrap ((k : Int) + 134) = ((k + 134 : Nat) : Int) := by rw [IntWalk.i64_in _ (by omega)]; omega
  have hu := u8_conv (k + 134)
  generalize UInt8.ofNat (k + 134) = B at hu ⊢
  generalize k + 134 = n at hz hu
  have M := Mem.init w
  go_enter Try.func16, Try.ntmps16
  go_upto_region 1 with fail
  refine wp_region_noPanic ?_
  refine wp_region_flow_text (fin := ?fin1) 6 0 (by kernel_rfl) [.inl (.int .i64 (k : Int)),
    .inl (.int .i64 (n : Int)),
    .inl (.int .u8 (B.toNat : Int)),
    .inr (5, bs [B, 0], some 2),
    .inl (.string ⟨[B, 0].toArray⟩),
    .inl (.string ⟨[B, 0].toArray⟩)] rfl rfl (by kernel_rfl) ?hfin1 ?hE1 ?hend1
  case hfin1 =>
    intro G
    simp only [flowAll, flowVal, Act.put, List.setIfInBounds_toArray, List.set_cons_zero, List.set_cons_succ]
    exact rfl
  case hE1 =>
    intro G
    refine ⟨Or.inr (fun W hB hR => known_val rfl (by go_simp)),
      Or.inr (fun W hB hR => known_val rfl (by go_simp)),
      Or.inr (fun W hB hR => known_val rfl (by go_simp)),
      ⟨rfl, fun W => made_slice (by unfold execOp; go_simp; rfl)⟩,
      Or.inr (fun W hB hR => known_val rfl (by have hrow := conv_bytes (hR 3 _ _ _ rfl (by kernel_rfl)) 2 2 rfl; go_simp)),
      Or.inr (fun W hB hR => known_val rfl (by go_simp)), trivial⟩
  intro G W hB hM
  replace M := M.step hB
  clear hB hM
  refine wpAny_end (by kernel_rfl) ?_ _
  refine NoPanic.normal ?_
  go_wp2
  go_ret
  exact ⟨rfl, M.below⟩
set_option maxHeartbeats 1000000 in
theorem mark_any (k : Nat) (w : World) : Calls Try.prog 26 #[.int .i64 (k : Int)] w fun e w' => e = .returned (.string ⟨(markL k).toArray⟩) ∧ Below w.heap.size w w' := by
  unfold markL
  have hu := u8_conv k
  generalize UInt8.ofNat k = B at hu ⊢
  have M := Mem.init w
  go_enter Try.func26, Try.ntmps26
  go_upto_region 1 with fail
  refine wp_region_noPanic ?_
  refine wp_region_flow_text (fin := ?fin2) 5 0 (by kernel_rfl) [.inl (.int .i64 (k : Int)),
    .inl (.int .u8 (B.toNat : Int)),
    .inr (5, bs [B, 1], some 2),
    .inl (.string ⟨[B, 1].toArray⟩),
    .inl (.string ⟨[B, 1].toArray⟩)] rfl rfl (by kernel_rfl) ?hfin2 ?hE2 ?hend2
  case hfin2 =>
    intro G
    simp only [flowAll, flowVal, Act.put, List.setIfInBounds_toArray, List.set_cons_zero, List.set_cons_succ]
    exact rfl
  case hE2 =>
    intro G
    refine ⟨Or.inr (fun W hB hR => known_val rfl (by go_simp)),
      Or.inr (fun W hB hR => known_val rfl (by go_simp)),
      ⟨rfl, fun W => made_slice (by unfold execOp; go_simp; rfl)⟩,
      Or.inr (fun W hB hR => known_val rfl (by have hrow := conv_bytes (hR 2 _ _ _ rfl (by kernel_rfl)) 2 2 rfl; go_simp)),
      Or.inr (fun W hB hR => known_val rfl (by go_simp)), trivial⟩
  intro G W hB hM
  replace M := M.step hB
  clear hB hM
  refine wpAny_end (by kernel_rfl) ?_ _
  refine NoPanic.normal ?_
  go_wp2
  go_ret
  exact ⟨rfl, M.below⟩
set_option maxHeartbeats 1000000 in
theorem sizes_any (n : Nat) (hn : n < 65536) (w : World) : Calls Try.prog 19 #[.int .i64 (n : Int)] w fun e w' => e = .returned (.string ⟨(sizesL n).toArray⟩) ∧ Below w.heap.size w w' := by
  have q1 := fun W => two_nat n hn W
  have hc1 : (⟨(beTail n 2).toArray⟩ : ByteArray) ++ ⟨[(58 : UInt8), 255].toArray⟩ = ⟨(sizesL n).toArray⟩ := cat_str _ _
  have hl : (beTail n 2).length = 2 := beTail_length _ _
  generalize sizesL n = R at hc1 ⊢
  generalize beTail n 2 = T at q1 hc1 hl
  have Q1 := Lib.hid q1
  have HC := Lib.hid hc1
  have HL := Lib.hid hl
  have M := Mem.init w
  clear q1 hc1 hl
  go_enter Try.func19, Try.ntmps19
  go_upto_region 1 with fail
  refine wp_region_noPanic ?_
  refine wp_region_flow (fin := ?fin3) 6 0 (by kernel_rfl) [.inl (.int .i64 (n : Int)),
    .inl (.string ⟨T.toArray⟩),
    .inr (5, bs [58, 255], some 2),
    .inl (.string ⟨[(58 : UInt8), 255].toArray⟩),
    .inl (.string ⟨R.toArray⟩),
    .inl (.string ⟨R.toArray⟩)] rfl rfl (by kernel_rfl) ?hfin3 ?hE3 ?hend3
  case hfin3 =>
    intro G
    simp only [flowAll, flowVal, Act.put, List.setIfInBounds_toArray, List.set_cons_zero, List.set_cons_succ]
    exact rfl
  case hE3 =>
    intro G
    refine ⟨Or.inr (fun W hB hR => known_val rfl (by go_simp)),
      Or.inr (fun W hB hR => known_call 25 #[.int .i64 (n : Int)] (Q1.out W) rfl (by go_simp)),
      ⟨rfl, fun W => made_slice (by unfold execOp; go_simp; rfl)⟩,
      Or.inr (fun W hB hR => known_val rfl (by have hrow := conv_bytes (hR 2 _ _ _ rfl (by kernel_rfl)) 2 2 rfl; go_simp)),
      Or.inr (fun W hB hR => known_val rfl (by exact exec_cat (.tmp 4) (.tmp 6) _ _ _ HC.out (by rw [str_size, str_size, HL.out]; decide) rfl rfl rfl)),
      Or.inr (fun W hB hR => known_val rfl (by go_simp)), trivial⟩
  intro G W hB hM
  replace M := M.drew.step hB
  clear hB hM
  refine wpAny_end (by kernel_rfl) ?_ _
  refine NoPanic.normal ?_
  go_wp2
  go_ret
  exact ⟨rfl, M.below⟩
set_option maxHeartbeats 1000000 in
theorem addresses_any (x : N10) (hx : x.Fit) (w : World) : Calls Try.prog 20 #[.agg x.c] w fun e w' => e = .returned (.string ⟨(x.f ++ x.t).toArray⟩) ∧ Below w.heap.size w w' := by
  have M : Mem w [(w.heap.size, 32, x.c)] (w.alloc (.cells x.c 32)) := (Mem.init w).alloc _ rfl _ _
  have hc1 : (⟨x.f.toArray⟩ : ByteArray) ++ ⟨x.t.toArray⟩ = ⟨(x.f ++ x.t).toArray⟩ := cat_str _ _
  have hf := hx.f
  have ht := hx.t
  generalize x.f ++ x.t = R at hc1 ⊢
  have HC := Lib.hid hc1
  have HL := Lib.hid (And.intro hf ht)
  clear hc1 hf ht
  go_enter Try.func20, Try.ntmps20
  go_upto_region 1 with fail
  change Code.wp _ _ _ _ (w.alloc (.cells x.c 32))
  generalize w.alloc (.cells x.c 32) = W0 at M ⊢
  refine wp_region_noPanic ?_
  refine wp_region_flow (fin := ?fin4) 8 0 (by kernel_rfl) [.inl (.pointer (some ⟨w.heap.size, 1, none⟩)),
    .inl (.slice (some ⟨w.heap.size, 1, none⟩) 16 16),
    .inl (.string ⟨x.f.toArray⟩),
    .inl (.pointer (some ⟨w.heap.size, 17, none⟩)),
    .inl (.slice (some ⟨w.heap.size, 17, none⟩) 16 16),
    .inl (.string ⟨x.t.toArray⟩),
    .inl (.string ⟨R.toArray⟩),
    .inl (.string ⟨R.toArray⟩)] rfl rfl (by kernel_rfl) ?hfin4 ?hE4 ?hend4
  case hfin4 =>
    intro G
    simp only [flowAll, flowVal, Act.put, List.setIfInBounds_toArray, List.set_cons_zero, List.set_cons_succ]
    exact rfl
  case hE4 =>
    intro G
    refine ⟨Or.inr (fun W hB hR => known_val rfl (by go_simp)),
      Or.inr (fun W hB hR => known_val rfl (by go_simp)),
      Or.inr (fun W hB hR => known_val rfl (by have := conv_range (((M.drew.step hB).row 0 rfl).n_f) 16 16 HL.out.1; go_simp)),
      Or.inr (fun W hB hR => known_val rfl (by go_simp)),
      Or.inr (fun W hB hR => known_val rfl (by go_simp)),
      Or.inr (fun W hB hR => known_val rfl (by have := conv_range (((M.drew.step hB).row 0 rfl).n_t hx) 16 16 HL.out.2; go_simp)),
      Or.inr (fun W hB hR => known_val rfl (by exact exec_cat (.tmp 5) (.tmp 8) _ _ _ HC.out (by rw [str_size, str_size, HL.out.1, HL.out.2]; decide) rfl rfl rfl)),
      Or.inr (fun W hB hR => known_val rfl (by go_simp)), trivial⟩
  intro G W hB hM
  replace M := M.drew.step hB
  clear hB hM
  refine wpAny_end (by kernel_rfl) ?_ _
  refine NoPanic.normal ?_
  go_wp2
  go_ret
  exact ⟨rfl, M.below⟩
set_option maxHeartbeats 1000000 in
theorem station_any (x : N10) (hx : x.Fit) (k : Nat) (hk : x.op = k) (w : World) : Calls Try.prog 17 #[.agg x.c] w fun e w' => e = .returned (.string ⟨x.stat.toArray⟩) ∧ Below w.heap.size w w' := by
  have M : Mem w [(w.heap.size, 32, x.c)] (w.alloc (.cells x.c 32)) := (Mem.init w).alloc _ rfl _ _
  have ch := (M.row 0 rfl).n_h hx
  unfold N10.stat
  by_cases hh : x.h = true
  · rw [if_pos hh]
    rw [hh] at ch
    have hc1 : (⟨(markL k).toArray⟩ : ByteArray) ++ ⟨x.m.toArray⟩ = ⟨(markL k ++ x.m).toArray⟩ := cat_str _ _
    have hq := fun W => mark_any k W
    have hl : (markL k).length = 2 := rfl
    have hm := hx.m
    rw [show x.op.toNat = k from by rw [hk]; rfl]
    generalize markL k ++ x.m = R at hc1 ⊢
    generalize markL k = T at hc1 hq hl
    have HQ := Lib.hid hq
    have HC := Lib.hid hc1
    have HL := Lib.hid (And.intro hl hm)
    have HK := Lib.hid hk
    clear hc1 hq hl hm hk
    go_enter Try.func17, Try.ntmps17
    go_upto_region 3 with fail
    clear ch
    change Code.wp _ _ _ _ (w.alloc (.cells x.c 32))
    generalize w.alloc (.cells x.c 32) = W0 at M ⊢
    refine wp_region_noPanic ?_
    refine wp_region_flow (fin := ?fin5) 8 0 (by kernel_rfl) [.inl (.pointer (some ⟨w.heap.size, 0, none⟩)),
      .inl (.int .i64 (k : Int)),
      .inl (.string ⟨T.toArray⟩),
      .inl (.pointer (some ⟨w.heap.size, 49, none⟩)),
      .inl (.slice (some ⟨w.heap.size, 49, none⟩) 6 6),
      .inl (.string ⟨x.m.toArray⟩),
      .inl (.string ⟨R.toArray⟩),
      .inl (.string ⟨R.toArray⟩)] rfl rfl (by kernel_rfl) ?hfin5 ?hE5 ?hend5
    case hfin5 =>
      intro G
      simp only [flowAll, flowVal, Act.put, List.setIfInBounds_toArray, List.set_cons_zero, List.set_cons_succ]
      exact rfl
    case hE5 =>
      intro G
      refine ⟨Or.inr (fun W hB hR => known_val rfl (by go_simp)),
        Or.inr (fun W hB hR => known_val rfl (by have := ((M.drew.step hB).row 0 rfl).n_op; rw [HK.out] at this; go_simp)),
        Or.inr (fun W hB hR => known_call 26 #[.int .i64 (k : Int)] (HQ.out W) rfl (by go_simp)),
        Or.inr (fun W hB hR => known_val rfl (by go_simp)),
        Or.inr (fun W hB hR => known_val rfl (by go_simp)),
        Or.inr (fun W hB hR => known_val rfl (by have := conv_range (((M.drew.step hB).row 0 rfl).n_m hx) 6 6 HL.out.2; go_simp)),
        Or.inr (fun W hB hR => known_val rfl (by exact exec_cat (.tmp 8) (.tmp 11) _ _ _ HC.out (by rw [str_size, str_size, HL.out.1, HL.out.2]; decide) rfl rfl rfl)),
        Or.inr (fun W hB hR => known_val rfl (by go_simp)), trivial⟩
    intro G W hB hM
    replace M := M.drew.step hB
    clear hB hM
    refine wpAny_end (by kernel_rfl) ?_ _
    refine NoPanic.normal ?_
    go_wp2
    go_ret
    exact ⟨rfl, M.below⟩
  · rw [if_neg hh]
    rw [Bool.not_eq_true] at hh
    rw [hh] at ch
    have HB := Lib.hid M.below
    clear M
    go_enter Try.func17, Try.ntmps17
    go_wp2
    go_ret
    exact ⟨rfl, HB.out⟩
end Go.Proofs.Ytkjkmnaiddjjnaa
