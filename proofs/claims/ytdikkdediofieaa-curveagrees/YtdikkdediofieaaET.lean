/- The walk of law CurveAgrees. -/
import Derived.Test.YtdikkdediofieaaFJ
namespace Go.Proofs.Ytdikkdediofieaa
open Go.RowKit
set_option maxRecDepth 20000 in
set_option maxHeartbeats 2000000 in
theorem agreesLaw_any (a : List UInt8) (ha : a.length = 32) (b : List UInt8) (hb : b.length = 32) (w : World) :
    Calls Try.prog 3 #[.agg (bs a), .agg (bs b)] w fun e w' => e = .returned (.bool true) ∧ Below w.heap.size w w' := by
  have M : Mem w [(w.heap.size, 23, bs a), (w.heap.size + 1, 23, bs b)] ((w.alloc (.cells (bs a) 23)).alloc (.cells (bs b) 23)) := ((Mem.init w).alloc _ rfl _ _).alloc _ (by simp) _ _
  have p1 := public_any a ha
  have p2 := public_any b hb
  have lpa : (sharedK a nineK).length = 32 := lowB_length _ _
  have lpb : (sharedK b nineK).length = 32 := lowB_length _ _
  have p3 := shared_any a (sharedK b nineK) ha lpb
  have p4 := shared_any b (sharedK a nineK) hb lpa
  rw [sharedK_comm b a _ hb ha] at p4
  have lr : (sharedK a (sharedK b nineK)).length = 32 := lowB_length _ _
  generalize sharedK a (sharedK b nineK) = r at p3 p4 lr
  generalize sharedK a nineK = pa at p1 p4 lpa
  generalize sharedK b nineK = pb at p2 p3 lpb
  have P1 := Lib.hid p1
  have P2 := Lib.hid p2
  have P3 := Lib.hid p3
  have P4 := Lib.hid p4
  have Hpa := Lib.hid lpa
  have Hpb := Lib.hid lpb
  have Hr := Lib.hid lr
  have Ha := Lib.hid ha
  have Hb := Lib.hid hb
  clear p1 p2 p3 p4 lpa lpb lr ha hb
  go_enter Try.func3, Try.ntmps3
  go_upto_region 1 with fail
  change Code.wp _ _ _ _ ((w.alloc (.cells (bs a) 23)).alloc (.cells (bs b) 23))
  generalize ((w.alloc (.cells (bs a) 23)).alloc (.cells (bs b) 23)) = w0 at M ⊢
  refine wp_region_noPanic ?_
  refine wp_region_flow (fin := ?fin1) 13 0 (by kernel_rfl) [.inl (.bool true),
    .inl (.bool true),
    .inl (.agg (bs a)),
    .inl (.agg (bs b)),
    .inl (.agg (bs pb)),
    .inl (.agg (bs r)),
    .inl (.agg (bs b)),
    .inl (.agg (bs a)),
    .inl (.agg (bs pa)),
    .inl (.agg (bs r)),
    .inl (.bool true),
    .inl (.bool true),
    .inl (.bool true)] rfl rfl (by kernel_rfl) ?hfin1 ?hE1 ?hend1
  case hfin1 =>
    intro G
    simp only [flowAll, flowVal, Act.put, List.setIfInBounds_toArray, List.set_cons_zero, List.set_cons_succ]
    exact rfl
  case hE1 =>
    intro G
    refine ⟨Or.inr (fun W hB => known_call 10 #[] (awake6_any W) rfl (by go_simp)),
      Or.inr (fun W hB => known_val rfl (by go_simp)),
      Or.inr (fun W hB => known_val rfl (by exact load_key (.tmp 2) _ a Ha.out ((M.drew.step hB).row 0 rfl) rfl rfl)),
      Or.inr (fun W hB => known_val rfl (by exact load_key (.tmp 3) _ b Hb.out ((M.drew.step hB).row 1 rfl) rfl rfl)),
      Or.inr (fun W hB => known_call 12 #[.agg (bs b)] (P2.out W) rfl (by go_simp)),
      Or.inr (fun W hB => known_call 11 #[.agg (bs a), .agg (bs pb)] (P3.out W) rfl (by go_simp)),
      Or.inr (fun W hB => known_val rfl (by exact load_key (.tmp 3) _ b Hb.out ((M.drew.step hB).row 1 rfl) rfl rfl)),
      Or.inr (fun W hB => known_val rfl (by exact load_key (.tmp 2) _ a Ha.out ((M.drew.step hB).row 0 rfl) rfl rfl)),
      Or.inr (fun W hB => known_call 12 #[.agg (bs a)] (P1.out W) rfl (by go_simp)),
      Or.inr (fun W hB => known_call 11 #[.agg (bs b), .agg (bs pa)] (P4.out W) rfl (by go_simp)),
      Or.inr (fun W hB => known_val rfl (by exact exec_sames (.tmp 10) (.tmp 14) r Hr.out rfl rfl rfl)),
      Or.inr (fun W hB => known_val rfl (by go_simp)),
      Or.inr (fun W hB => known_val rfl (by go_simp)), trivial⟩
  intro G W hB hM
  replace M := M.drew.step hB
  clear hM hB G
  refine wpAny_end (by kernel_rfl) ?_ _
  refine NoPanic.normal ?_
  go_wp2
  go_ret
  exact ⟨rfl, M.below⟩
end Go.Proofs.Ytdikkdediofieaa
