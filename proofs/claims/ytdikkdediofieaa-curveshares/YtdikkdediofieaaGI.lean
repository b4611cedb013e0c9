/- The walk of law CurveShares. -/
import Derived.Test.YtdikkdediofieaaGG
import Derived.Test.YtdikkdediofieaaEO
namespace Go.Proofs.Ytdikkdediofieaa
open Go.RowKit
set_option maxRecDepth 20000 in
set_option maxHeartbeats 2000000 in
theorem curveSharesLaw_any (a : List UInt8) (ha : a.length = 32) (u : List UInt8) (hu : u.length = 32) (w : World) :
    Calls Try.prog 7 #[.agg (bs a), .agg (bs u)] w fun e w' => e = .returned (.bool true) ∧ Below w.heap.size w w' := by
  have M : Mem w [(w.heap.size, 23, bs a), (w.heap.size + 1, 23, bs u)] ((w.alloc (.cells (bs a) 23)).alloc (.cells (bs u) 23)) := ((Mem.init w).alloc _ rfl _ _).alloc _ (by simp) _ _
  have p1 := shared_any a u ha hu
  have p2 := cshared_any a u ha hu
  have p3 := public_any a ha
  have p4 := shared_any a nineK ha rfl
  have ls : (sharedK a u).length = 32 := lowB_length _ _
  have lp : (sharedK a nineK).length = 32 := lowB_length _ _
  generalize sharedK a u = s at p1 p2 ls
  generalize sharedK a nineK = p at p3 p4 lp
  have P1 := Lib.hid p1
  have P2 := Lib.hid p2
  have P3 := Lib.hid p3
  have P4 := Lib.hid p4
  have Hs := Lib.hid ls
  have Hp := Lib.hid lp
  have Ha := Lib.hid ha
  have Hu := Lib.hid hu
  clear p1 p2 p3 p4 ls lp ha hu
  go_enter Try.func7, Try.ntmps7
  go_upto_region 1 with fail
  change Code.wp _ _ _ _ ((w.alloc (.cells (bs a) 23)).alloc (.cells (bs u) 23))
  generalize ((w.alloc (.cells (bs a) 23)).alloc (.cells (bs u) 23)) = w0 at M ⊢
  refine wp_region_noPanic ?_
  refine wp_region_flow (fin := ?fin1) 19 0 (by kernel_rfl) [.inl (.bool true),
    .inl (.bool true),
    .inl (.agg (bs a)),
    .inl (.agg (bs u)),
    .inl (.agg (bs s)),
    .inl (.agg (bs a)),
    .inl (.agg (bs u)),
    .inl (.agg (bs s)),
    .inl (.bool true),
    .inl (.bool true),
    .inl (.bool true),
    .inl (.agg (bs a)),
    .inl (.agg (bs p)),
    .inl (.agg (bs a)),
    .inl (.agg (bs nineK)),
    .inl (.agg (bs p)),
    .inl (.bool true),
    .inl (.bool true),
    .inl (.bool true)] rfl rfl (by kernel_rfl) ?hfin1 ?hE1 ?hend1
  case hfin1 =>
    intro G
    simp only [flowAll, flowVal, Act.put, List.setIfInBounds_toArray, List.set_cons_zero, List.set_cons_succ]
    exact rfl
  case hE1 =>
    intro G
    refine ⟨Or.inr (fun W hB => known_call 10 #[] (awake6_any W) rfl (by go_simp)),
      Or.inr (fun W hB => known_val rfl (by go_simp)),
      Or.inr (fun W hB => known_val rfl (by exact load_key (.tmp 2) _ a Ha.out ((M.drew.step hB).row 0 rfl) rfl rfl)),
      Or.inr (fun W hB => known_val rfl (by exact load_key (.tmp 3) _ u Hu.out ((M.drew.step hB).row 1 rfl) rfl rfl)),
      Or.inr (fun W hB => known_call 11 #[.agg (bs a), .agg (bs u)] (P1.out W) rfl (by go_simp)),
      Or.inr (fun W hB => known_val rfl (by exact load_key (.tmp 2) _ a Ha.out ((M.drew.step hB).row 0 rfl) rfl rfl)),
      Or.inr (fun W hB => known_val rfl (by exact load_key (.tmp 3) _ u Hu.out ((M.drew.step hB).row 1 rfl) rfl rfl)),
      Or.inr (fun W hB => known_call 20 #[.agg (bs a), .agg (bs u)] (P2.out W) rfl (by go_simp)),
      Or.inr (fun W hB => known_val rfl (by exact exec_sames (.tmp 9) (.tmp 12) s Hs.out rfl rfl rfl)),
      Or.inr (fun W hB => known_val rfl (by go_simp)),
      Or.inr (fun W hB => known_val rfl (by go_simp)),
      Or.inr (fun W hB => known_val rfl (by exact load_key (.tmp 2) _ a Ha.out ((M.drew.step hB).row 0 rfl) rfl rfl)),
      Or.inr (fun W hB => known_call 12 #[.agg (bs a)] (P3.out W) rfl (by go_simp)),
      Or.inr (fun W hB => known_val rfl (by exact load_key (.tmp 2) _ a Ha.out ((M.drew.step hB).row 0 rfl) rfl rfl)),
      Or.inr (fun W hB => known_val rfl (by kernel_rfl)),
      Or.inr (fun W hB => known_call 11 #[.agg (bs a), .agg (bs nineK)] (P4.out W) rfl (by go_simp)),
      Or.inr (fun W hB => known_val rfl (by exact exec_sames (.tmp 17) (.tmp 20) p Hp.out rfl rfl rfl)),
      Or.inr (fun W hB => known_val rfl (by go_simp)),
      Or.inr (fun W hB => known_val rfl (by go_simp)), trivial⟩
  intro G W hB hM
  replace M := M.drew.step hB
  clear hM hB G
  refine wpAny_end (by kernel_rfl) ?_ _
  refine NoPanic.normal ?_
  go_wp2
  go_ret
  exact ⟨rfl, M.below⟩
end Go.Proofs.Ytdikkdediofieaa
