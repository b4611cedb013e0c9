/- bpdu.rightAge, flagsOf, within, Notice, Less: walked. -/
import Derived.Test.YtingcoojhfadgaaZB
import Derived.Deep.RegionHeld3
namespace Go.Proofs.Ytingcoojhfadgaa
open Go.RowKit
set_option maxRecDepth 20000 in
theorem rightAge_any (x : B11) (hx : x.Fit) (w : World) : Calls Try.prog 22 #[.agg x.c] w fun e w' => e = .returned (.bool x.young) ∧ Below w.heap.size w w' := by
  have M : Mem w [(w.heap.size, 28, x.c)] (w.alloc (.cells x.c 28)) := (Mem.init w).alloc _ rfl _ _
  have r0 := M.row 0 rfl
  have c4 := r0.b_age hx
  have c5 := r0.b_top hx
  unfold B11.young
  have HB := Lib.hid M.below
  clear M r0
  generalize x.age = a at *
  generalize x.top = t at *
  go_enter Try.func22, Try.ntmps22
  go_wp2
  go_ret
  exact ⟨rfl, HB.out⟩
set_option maxRecDepth 20000 in
set_option maxHeartbeats 1000000 in
theorem flagsOf_ff (x : B11) (hx : x.Fit) (hc : x.ch = false) (ha : x.ack = false) (w : World) : Calls Try.prog 25 #[.agg x.c] w fun e w' => e = .returned (.string ⟨[(0 : UInt8)].toArray⟩) ∧ Below w.heap.size w w' := by
  have M : Mem w [(w.heap.size, 28, x.c)] (w.alloc (.cells x.c 28)) := (Mem.init w).alloc _ rfl _ _
  have r0 := M.row 0 rfl
  have c8 := r0.b_ch hx
  have c9 := r0.b_ack hx
  rw [hc] at c8
  rw [ha] at c9
  clear r0 hc ha
  go_enter Try.func25, Try.ntmps25
  go_upto_region 6 with fail
  clear c8 c9
  change Code.wp _ _ _ _ (w.alloc (.cells x.c 28))
  generalize w.alloc (.cells x.c 28) = W0 at M ⊢
  refine wp_region_noPanic ?_
  refine wp_region_flow_text (fin := ?fin1) 4 0 (by kernel_rfl) [.inl (.int .u8 0),
    .inr (5, bs [0], some 1),
    .inl (.string ⟨[(0 : UInt8)].toArray⟩),
    .inl (.string ⟨[(0 : UInt8)].toArray⟩)] rfl rfl (by kernel_rfl) ?hfin1 ?hE1 ?hend1
  case hfin1 =>
    intro G
    simp only [flowAll, flowVal, Act.put, List.setIfInBounds_toArray, List.set_cons_zero, List.set_cons_succ]
    exact rfl
  case hE1 =>
    intro G
    refine ⟨Or.inr (fun W hB hR => known_val rfl (by have q1 : bits .or .u8 0 1 = 1 := (by decide +kernel); have q2 : bits .or .u8 0 128 = 128 := (by decide +kernel); have q3 : bits .or .u8 1 128 = 129 := (by decide +kernel); go_simp)),
      ⟨rfl, fun W => made_slice (by unfold execOp; go_simp; rfl)⟩,
      Or.inr (fun W hB hR => known_val rfl (by have hrow := conv_bytes (hR 1 _ _ _ rfl (by kernel_rfl)) 1 1 rfl; go_simp)),
      Or.inr (fun W hB hR => known_val rfl (by go_simp)), trivial⟩
  intro G W hB hM
  replace M := M.step hB
  clear hB hM
  refine wpAny_end (by kernel_rfl) ?_ _
  refine NoPanic.normal ?_
  go_wp2
  go_ret
  exact ⟨rfl, M.below⟩
set_option maxRecDepth 20000 in
set_option maxHeartbeats 1000000 in
theorem flagsOf_ft (x : B11) (hx : x.Fit) (hc : x.ch = false) (ha : x.ack = true) (w : World) : Calls Try.prog 25 #[.agg x.c] w fun e w' => e = .returned (.string ⟨[(128 : UInt8)].toArray⟩) ∧ Below w.heap.size w w' := by
  have M : Mem w [(w.heap.size, 28, x.c)] (w.alloc (.cells x.c 28)) := (Mem.init w).alloc _ rfl _ _
  have r0 := M.row 0 rfl
  have c8 := r0.b_ch hx
  have c9 := r0.b_ack hx
  rw [hc] at c8
  rw [ha] at c9
  clear r0 hc ha
  go_enter Try.func25, Try.ntmps25
  go_upto_region 6 with fail
  clear c8 c9
  change Code.wp _ _ _ _ (w.alloc (.cells x.c 28))
  generalize w.alloc (.cells x.c 28) = W0 at M ⊢
  refine wp_region_noPanic ?_
  refine wp_region_flow_text (fin := ?fin2) 4 0 (by kernel_rfl) [.inl (.int .u8 128),
    .inr (5, bs [128], some 1),
    .inl (.string ⟨[(128 : UInt8)].toArray⟩),
    .inl (.string ⟨[(128 : UInt8)].toArray⟩)] rfl rfl (by kernel_rfl) ?hfin2 ?hE2 ?hend2
  case hfin2 =>
    intro G
    simp only [flowAll, flowVal, Act.put, List.setIfInBounds_toArray, List.set_cons_zero, List.set_cons_succ]
    exact rfl
  case hE2 =>
    intro G
    refine ⟨Or.inr (fun W hB hR => known_val rfl (by have q1 : bits .or .u8 0 1 = 1 := (by decide +kernel); have q2 : bits .or .u8 0 128 = 128 := (by decide +kernel); have q3 : bits .or .u8 1 128 = 129 := (by decide +kernel); go_simp)),
      ⟨rfl, fun W => made_slice (by unfold execOp; go_simp; rfl)⟩,
      Or.inr (fun W hB hR => known_val rfl (by have hrow := conv_bytes (hR 1 _ _ _ rfl (by kernel_rfl)) 1 1 rfl; go_simp)),
      Or.inr (fun W hB hR => known_val rfl (by go_simp)), trivial⟩
  intro G W hB hM
  replace M := M.step hB
  clear hB hM
  refine wpAny_end (by kernel_rfl) ?_ _
  refine NoPanic.normal ?_
  go_wp2
  go_ret
  exact ⟨rfl, M.below⟩
set_option maxRecDepth 20000 in
set_option maxHeartbeats 1000000 in
theorem flagsOf_tf (x : B11) (hx : x.Fit) (hc : x.ch = true) (ha : x.ack = false) (w : World) : Calls Try.prog 25 #[.agg x.c] w fun e w' => e = .returned (.string ⟨[(1 : UInt8)].toArray⟩) ∧ Below w.heap.size w w' := by
  have M : Mem w [(w.heap.size, 28, x.c)] (w.alloc (.cells x.c 28)) := (Mem.init w).alloc _ rfl _ _
  have r0 := M.row 0 rfl
  have c8 := r0.b_ch hx
  have c9 := r0.b_ack hx
  rw [hc] at c8
  rw [ha] at c9
  clear r0 hc ha
  go_enter Try.func25, Try.ntmps25
  go_upto_region 6 with fail
  clear c8 c9
  change Code.wp _ _ _ _ (w.alloc (.cells x.c 28))
  generalize w.alloc (.cells x.c 28) = W0 at M ⊢
  refine wp_region_noPanic ?_
  refine wp_region_flow_text (fin := ?fin3) 4 0 (by kernel_rfl) [.inl (.int .u8 1),
    .inr (5, bs [1], some 1),
    .inl (.string ⟨[(1 : UInt8)].toArray⟩),
    .inl (.string ⟨[(1 : UInt8)].toArray⟩)] rfl rfl (by kernel_rfl) ?hfin3 ?hE3 ?hend3
  case hfin3 =>
    intro G
    simp only [flowAll, flowVal, Act.put, List.setIfInBounds_toArray, List.set_cons_zero, List.set_cons_succ]
    exact rfl
  case hE3 =>
    intro G
    refine ⟨Or.inr (fun W hB hR => known_val rfl (by have q1 : bits .or .u8 0 1 = 1 := (by decide +kernel); have q2 : bits .or .u8 0 128 = 128 := (by decide +kernel); have q3 : bits .or .u8 1 128 = 129 := (by decide +kernel); go_simp)),
      ⟨rfl, fun W => made_slice (by unfold execOp; go_simp; rfl)⟩,
      Or.inr (fun W hB hR => known_val rfl (by have hrow := conv_bytes (hR 1 _ _ _ rfl (by kernel_rfl)) 1 1 rfl; go_simp)),
      Or.inr (fun W hB hR => known_val rfl (by go_simp)), trivial⟩
  intro G W hB hM
  replace M := M.step hB
  clear hB hM
  refine wpAny_end (by kernel_rfl) ?_ _
  refine NoPanic.normal ?_
  go_wp2
  go_ret
  exact ⟨rfl, M.below⟩
set_option maxRecDepth 20000 in
set_option maxHeartbeats 1000000 in
theorem flagsOf_tt (x : B11) (hx : x.Fit) (hc : x.ch = true) (ha : x.ack = true) (w : World) : Calls Try.prog 25 #[.agg x.c] w fun e w' => e = .returned (.string ⟨[(129 : UInt8)].toArray⟩) ∧ Below w.heap.size w w' := by
  have M : Mem w [(w.heap.size, 28, x.c)] (w.alloc (.cells x.c 28)) := (Mem.init w).alloc _ rfl _ _
  have r0 := M.row 0 rfl
  have c8 := r0.b_ch hx
  have c9 := r0.b_ack hx
  rw [hc] at c8
  rw [ha] at c9
  clear r0 hc ha
  go_enter Try.func25, Try.ntmps25
  go_upto_region 6 with fail
  clear c8 c9
  change Code.wp _ _ _ _ (w.alloc (.cells x.c 28))
  generalize w.alloc (.cells x.c 28) = W0 at M ⊢
  refine wp_region_noPanic ?_
  refine wp_region_flow_text (fin := ?fin4) 4 0 (by kernel_rfl) [.inl (.int .u8 129),
    .inr (5, bs [129], some 1),
    .inl (.string ⟨[(129 : UInt8)].toArray⟩),
    .inl (.string ⟨[(129 : UInt8)].toArray⟩)] rfl rfl (by kernel_rfl) ?hfin4 ?hE4 ?hend4
  case hfin4 =>
    intro G
    simp only [flowAll, flowVal, Act.put, List.setIfInBounds_toArray, List.set_cons_zero, List.set_cons_succ]
    exact rfl
  case hE4 =>
    intro G
    refine ⟨Or.inr (fun W hB hR => known_val rfl (by have q1 : bits .or .u8 0 1 = 1 := (by decide +kernel); have q2 : bits .or .u8 0 128 = 128 := (by decide +kernel); have q3 : bits .or .u8 1 128 = 129 := (by decide +kernel); go_simp)),
      ⟨rfl, fun W => made_slice (by unfold execOp; go_simp; rfl)⟩,
      Or.inr (fun W hB hR => known_val rfl (by have hrow := conv_bytes (hR 1 _ _ _ rfl (by kernel_rfl)) 1 1 rfl; go_simp)),
      Or.inr (fun W hB hR => known_val rfl (by go_simp)), trivial⟩
  intro G W hB hM
  replace M := M.step hB
  clear hB hM
  refine wpAny_end (by kernel_rfl) ?_ _
  refine NoPanic.normal ?_
  go_wp2
  go_ret
  exact ⟨rfl, M.below⟩
theorem flagsOf_any (x : B11) (hx : x.Fit) (w : World) : Calls Try.prog 25 #[.agg x.c] w fun e w' => e = .returned (.string ⟨[x.flag].toArray⟩) ∧ Below w.heap.size w w' := by
  unfold B11.flag
  cases hc : x.ch <;> cases ha : x.ack
  · exact flagsOf_ff x hx hc ha w
  · exact flagsOf_ft x hx hc ha w
  · exact flagsOf_tf x hx hc ha w
  · exact flagsOf_tt x hx hc ha w
theorem inL_take (L : Int) (l : List Int) (k : Nat) (h : k < l.length) : inL L (l.take (k + 1)) = (inL L (l.take k) && (decide (0 ≤ l.getD k 0) && decide (l.getD k 0 ≤ L))) := by
  unfold inL
  rw [List.take_succ_eq_append_getElem h, List.all_append, List.getD_eq_getElem?_getD, List.getElem?_eq_getElem h]
  simp
theorem inL_no (L : Int) (l : List Int) (k : Nat) (h : k < l.length) (hn : (decide (0 ≤ l.getD k 0) && decide (l.getD k 0 ≤ L)) = false) : inL L l = false := by
  unfold inL
  rw [List.all_eq_false]
  refine ⟨l.getD k 0, ?_, ?_⟩
  · rw [List.getD_eq_getElem?_getD, List.getElem?_eq_getElem h]
    exact List.getElem_mem h
  · rw [hn]; simp
set_option maxRecDepth 20000 in
set_option maxHeartbeats 1000000 in
/-- whether all numbers are within a limit -/
theorem within_any (L : Int) (l : List Int) (hl : l.length ≤ 1000) (g cap : Nat) (w : World) (hr : w.rangeAt g 0 (l.map (Value.int .i64))) :
    Calls Try.prog 21 #[.int .i64 L, .slice (some ⟨g, 0, none⟩) l.length cap] w fun e w' => e = .returned (.bool (inL L l)) ∧ w' = w := by
  have hc : ∀ k, k < l.length → w.cell? ⟨g, k, none⟩ = some (.int .i64 (l.getD k 0)) := fun k hk => by
    have := hr k (.int .i64 (l.getD k 0)) (by rw [List.getElem?_map, List.getD_eq_getElem?_getD, List.getElem?_eq_getElem hk]; rfl)
    rw [Nat.zero_add] at this
    exact this
  have HNO := Lib.hid (inL_no L l)
  have hall : inL L (l.take l.length) = inL L l := by rw [List.take_length]
  have hst : ∀ k, k < l.length → inL L (l.take (k + 1)) = (inL L (l.take k) && (decide (0 ≤ l.getD k 0) && decide (l.getD k 0 ≤ L))) := fun k hk => inL_take L l k hk
  have h0 : inL L (l.take 0) = true := rfl
  generalize inL L l = r at *
  obtain ⟨q, hq⟩ : ∃ q : Nat → Bool, ∀ k, inL L (l.take k) = q k := ⟨fun k => inL L (l.take k), fun _ => rfl⟩
  rw [hq] at hall h0
  have hst2 : ∀ k, k < l.length → q (k + 1) = (q k && (decide (0 ≤ l.getD k 0) && decide (l.getD k 0 ≤ L))) := fun k hk => by rw [← hq, ← hq]; exact hst k hk
  clear hst hq
  have HC := Lib.hid hc
  have HALL := Lib.hid hall
  have HST := Lib.hid hst2
  have H0 := Lib.hid h0
  clear hc hall hst2 h0 hr
  obtain ⟨m, hm⟩ : ∃ m, l.length = m := ⟨_, rfl⟩
  obtain ⟨v, hv⟩ : ∃ v : Nat → Int, ∀ k, l.getD k 0 = v k := ⟨fun k => l.getD k 0, fun _ => rfl⟩
  simp only [hv] at HC HST HNO
  rw [hm] at hl HC HALL HST HNO ⊢
  clear hv hm
  go_enter Try.func21, Try.ntmps21
  go_wp2
  go_loop [9] (fun i => ∃ k : Nat, k ≤ m ∧ q k = true ∧ i = .int .i64 (k : Int)) (fun i => m - (intOf i).toNat)
  case atStart => exact ⟨0, by omega, H0.out, rfl⟩
  case round =>
    obtain ⟨k, hk, hqk, rfl⟩ := hrel
    by_cases hlt : k < m
    · have t1 : decide ((k : Int) < (m : Int)) = true := by simp; omega
      have hcell := HC.out k hlt
      have hs := HST.out k hlt
      have hno := HNO.out k hlt
      generalize v k = x at hcell hs hno
      have HS := Lib.hid hs
      have HN := Lib.hid hno
      have HQ := Lib.hid hqk
      clear hs hno hqk
      by_cases h1 : x < 0
      · have t2 : decide (x < 0) = true := by simpa using h1
        go_wp2
        go_ret
        refine ⟨?_, rfl⟩
        rw [HN.out (by simp; omega)]
        rfl
      · by_cases h2 : L < x
        · have t2 : decide (x < 0) = false := by simpa using h1
          have t3 : decide (L < x) = true := by simpa using h2
          go_wp2
          go_ret
          refine ⟨?_, rfl⟩
          rw [HN.out (by simp; omega)]
          rfl
        · have t2 : decide (x < 0) = false := by simpa using h1
          have t3 : decide (L < x) = false := by simpa using h2
          go_wp2
          refine ⟨⟨k + 1, by omega, ?_, by go_num⟩, by simp [intOf]; omega⟩
          rw [HS.out, HQ.out]
          simp
          omega
    · have hk2 : k = m := by omega
      subst hk2
      have t1 : decide ((k : Int) < (k : Int)) = false := by simp
      rw [HALL.out] at hqk
      have HQ := Lib.hid hqk
      clear hqk hlt
      go_wp2
      go_ret
      exact ⟨by rw [HQ.out]; rfl, rfl⟩
theorem notice_any (w : World) : Calls Try.prog 10 #[] w fun e w' => e = .returned (.string ⟨noticeL.toArray⟩) ∧ w' = w := by
  unfold noticeL
  go_enter Try.func10, Try.ntmps10
  go_wp2
  go_ret
  exact ⟨rfl, rfl⟩
end Go.Proofs.Ytingcoojhfadgaa
