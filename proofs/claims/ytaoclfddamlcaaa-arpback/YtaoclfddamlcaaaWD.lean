/- arp.rightOp, head, Print: walked. -/
import Derived.Test.YtaoclfddamlcaaaWC
import Derived.Deep.RegionHeld3
namespace Go.Proofs.Ytaoclfddamlcaaa
open Go.RowKit
theorem rightOp_any (k : Int) (w : World) : Calls Try.prog 17 #[.int .i64 k] w fun e w' => e = .returned (.bool (rightO k)) ∧ w' = w := by
  unfold rightO
  go_enter Try.func17, Try.ntmps17
  by_cases h0 : k = 1
  · go_wp2
    go_ret
    exact ⟨ret_bool (by simp [h0]), rfl⟩
  · by_cases h1 : k = 2
    · go_wp2
      go_ret
      exact ⟨ret_bool (by simp [h1]), rfl⟩
    · go_wp2
      go_ret
      exact ⟨ret_bool (by simp [h0, h1]), rfl⟩
set_option maxRecDepth 20000 in
set_option maxHeartbeats 1000000 in
theorem head_any (w : World) : Calls Try.prog 18 #[] w fun e w' => e = .returned (.string ⟨headL.toArray⟩) ∧ Below w.heap.size w w' := by
  have q1 := fun W => two_nat 1 (by omega) W
  have q2 := fun W => two_nat 2048 (by omega) W
  have e1 : beTail 1 2 = [0, 1] := by decide +kernel
  have e2 : beTail 2048 2 = [8, 0] := by decide +kernel
  rw [e1] at q1
  rw [e2] at q2
  have hc1 : (⟨[(0 : UInt8), 1].toArray⟩ : ByteArray) ++ ⟨[(8 : UInt8), 0].toArray⟩ = ⟨[(0 : UInt8), 1, 8, 0].toArray⟩ := cat_str _ _
  have hc2 : (⟨[(0 : UInt8), 1, 8, 0].toArray⟩ : ByteArray) ++ ⟨[(6 : UInt8), 4].toArray⟩ = ⟨headL.toArray⟩ := cat_str _ _
  have Q1 := Lib.hid q1
  have Q2 := Lib.hid q2
  have HC := Lib.hid (And.intro hc1 hc2)
  have M := Mem.init w
  clear q1 q2 e1 e2 hc1 hc2
  generalize headL = R at HC ⊢
  go_enter Try.func18, Try.ntmps18
  go_upto_region 1 with fail
  refine wp_region_noPanic ?_
  refine wp_region_flow (fin := ?fin1) 7 0 (by kernel_rfl) [.inl (.string ⟨[(0 : UInt8), 1].toArray⟩),
    .inl (.string ⟨[(8 : UInt8), 0].toArray⟩),
    .inl (.string ⟨[(0 : UInt8), 1, 8, 0].toArray⟩),
    .inr (5, bs [6, 4], some 2),
    .inl (.string ⟨[(6 : UInt8), 4].toArray⟩),
    .inl (.string ⟨R.toArray⟩),
    .inl (.string ⟨R.toArray⟩)] rfl rfl (by kernel_rfl) ?hfin1 ?hE1 ?hend1
  case hfin1 =>
    intro G
    simp only [flowAll, flowVal, Act.put, List.setIfInBounds_toArray, List.set_cons_zero, List.set_cons_succ]
    exact rfl
  case hE1 =>
    intro G
    refine ⟨Or.inr (fun W hB hR => known_call 19 #[.int .i64 1] (Q1.out W) rfl (by go_simp)),
      Or.inr (fun W hB hR => known_call 19 #[.int .i64 2048] (Q2.out W) rfl (by go_simp)),
      Or.inr (fun W hB hR => known_val rfl (by exact exec_cat (.tmp 1) (.tmp 2) _ _ _ HC.out.1 (by decide) rfl rfl rfl)),
      ⟨rfl, fun W => made_slice (by unfold execOp; go_simp; rfl)⟩,
      Or.inr (fun W hB hR => known_val rfl (by have hrow := conv_bytes (hR 3 _ _ _ rfl (by kernel_rfl)) 2 2 rfl; go_simp)),
      Or.inr (fun W hB hR => known_val rfl (by exact exec_cat (.tmp 3) (.tmp 5) _ _ _ HC.out.2 (by decide) rfl rfl rfl)),
      Or.inr (fun W hB hR => known_val rfl (by go_simp)), trivial⟩
  intro G W hB hM
  replace M := M.drew.step hB
  clear hB hM
  refine wpAny_end (by kernel_rfl) ?_ _
  refine NoPanic.normal ?_
  go_wp2
  go_ret
  exact ⟨rfl, M.below⟩
end Go.Proofs.Ytaoclfddamlcaaa
