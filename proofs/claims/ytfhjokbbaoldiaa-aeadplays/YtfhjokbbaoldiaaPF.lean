/- poly.folded: walked. -/
import Derived.Test.YtfhjokbbaoldiaaPE
namespace Go.Proofs.Ytfhjokbbaoldiaa
open Go.RowKit
theorem lowL_length (l : List Nat) : (lowL l).length = 3 := rfl
theorem onceL_length (l : List Nat) : (onceL l).length = 3 := rfl
theorem fourL_length (l : List Nat) : (fourL l).length = 3 := rfl
/-- what memory holds in the midst of folding -/
def FoldEnv (w : World) (l a b c : List Nat) (W : World) : Prop :=
  Has W w.heap.size 63 (us l) ∧ Has W (w.heap.size + 1) 58 z3 ∧ Has W (w.heap.size + 2) 58 (us a) ∧ Has W (w.heap.size + 3) 58 (us b) ∧ Has W (w.heap.size + 4) 58 (us c) ∧ Below w.heap.size w W
section
variable {w : World} {l a b c : List Nat} {W W' : World}
theorem FoldEnv.drew (h : FoldEnv w l a b c W) : FoldEnv w l a b c W.drew := ⟨h.1, h.2.1, h.2.2.1, h.2.2.2.1, h.2.2.2.2.1, h.2.2.2.2.2.drew⟩
theorem FoldEnv.putB (h : FoldEnv w l a b c W) (j s : Nat) : FoldEnv w l a (b.set j s) c (W.setCell ⟨w.heap.size + 3, j, none⟩ (U64 s)) :=
  ⟨h.1.other (by show w.heap.size ≠ w.heap.size + 3; omega) _, h.2.1.other (by show w.heap.size + 1 ≠ w.heap.size + 3; omega) _, h.2.2.1.other (by show w.heap.size + 2 ≠ w.heap.size + 3; omega) _, h.2.2.2.1.setU j s,
    h.2.2.2.2.1.other (by show w.heap.size + 4 ≠ w.heap.size + 3; omega) _, h.2.2.2.2.2.setCell (by show w.heap.size ≤ w.heap.size + 3; omega) _⟩
theorem FoldEnv.putC (h : FoldEnv w l a b c W) (j s : Nat) : FoldEnv w l a b (c.set j s) (W.setCell ⟨w.heap.size + 4, j, none⟩ (U64 s)) :=
  ⟨h.1.other (by show w.heap.size ≠ w.heap.size + 4; omega) _, h.2.1.other (by show w.heap.size + 1 ≠ w.heap.size + 4; omega) _, h.2.2.1.other (by show w.heap.size + 2 ≠ w.heap.size + 4; omega) _, h.2.2.2.1.other (by show w.heap.size + 3 ≠ w.heap.size + 4; omega) _,
    h.2.2.2.2.1.setU j s, h.2.2.2.2.2.setCell (by show w.heap.size ≤ w.heap.size + 4; omega) _⟩
theorem FoldEnv.step (h : FoldEnv w l a b c W) (hb : Below W.heap.size W W') : FoldEnv w l a b c W' :=
  ⟨h.1.below hb h.1.lt, h.2.1.below hb h.2.1.lt, h.2.2.1.below hb h.2.2.1.lt, h.2.2.2.1.below hb h.2.2.2.1.lt, h.2.2.2.2.1.below hb h.2.2.2.2.1.lt, h.2.2.2.2.2.trans (hb.mono h.2.2.2.2.2.size)⟩
end
set_option maxHeartbeats 2000000 in
theorem folded_any (L : Nat) (hL : L < 2135987035920910082395021706169552114602704522356652769947041607822219725780640550022962086936576) (w : World) :
    Calls Try.prog 38 #[.agg (us (dg 18446744073709551616 L 6))] w fun e w' => e = .returned (.agg (us (dg 18446744073709551616 (fld L) 3))) ∧ Below w.heap.size w w' := by
  obtain ⟨h1, h2, h3⟩ := fold_parts L hL
  obtain ⟨l, hl⟩ : ∃ l, l = dg 18446744073709551616 L 6 := ⟨_, rfl⟩
  have ll : l.length = 6 := by rw [hl, dg_length]
  have dl : Dig 18446744073709551616 l := by rw [hl]; exact dg_dig _ _ _ (by omega)
  rw [← hl] at h1 h2 h3 ⊢
  have A1 := added_any (L / 1361129467683753853853498429727072845824) (4 * (L / 1361129467683753853853498429727072845824))
  have A2 := added_any (L % 1361129467683753853853498429727072845824) (L / 1361129467683753853853498429727072845824 + 4 * (L / 1361129467683753853853498429727072845824))
  have e5 : L % 1361129467683753853853498429727072845824 + (L / 1361129467683753853853498429727072845824 + 4 * (L / 1361129467683753853853498429727072845824)) = fld L := by unfold fld; omega
  rw [e5] at A2
  rw [← h1] at A2
  rw [← h2, ← h3] at A1
  have lR : (dg 18446744073709551616 (fld L) 3).length = 3 := dg_length _ _ _
  generalize dg 18446744073709551616 (fld L) 3 = R at A2 lR ⊢
  generalize hM : dg 18446744073709551616 (L / 1361129467683753853853498429727072845824 + 4 * (L / 1361129467683753853853498429727072845824)) 3 = M at A1 A2
  have hlow : lowL l = [l.getD 0 0, l.getD 1 0, l.getD 2 0 % 4] := rfl
  obtain ⟨lo, hlo⟩ : ∃ lo, lo = lowL l := ⟨_, rfl⟩
  rw [← hlo] at A2 hlow
  have llo : lo.length = 3 := by rw [hlo]; rfl
  clear hlo
  have HA1 := Lib.hid A1
  have HA2 := Lib.hid A2
  have c2 := dl.getD (by omega) 2
  have hm := and3 _ c2
  have hE := two_new w (us l) z3 63 58
  have h0 : ∀ W, Has W w.heap.size 63 (us l) → W.cell? ⟨w.heap.size, 0, none⟩ = some (U64 (l.getD 0 0)) ∧ W.cell? ⟨w.heap.size, 1, none⟩ = some (U64 (l.getD 1 0)) ∧ W.cell? ⟨w.heap.size, 2, none⟩ = some (U64 (l.getD 2 0)) := fun W h => ⟨h.u64 0 (by omega), h.u64 1 (by omega), h.u64 2 (by omega)⟩
  generalize l.getD 0 0 = x0 at hlow h0
  generalize l.getD 1 0 = x1 at hlow h0
  generalize l.getD 2 0 = x2 at hlow hm h0
  generalize x2 % 4 = x3 at hlow hm
  have HLL := Lib.hid ll
  have HLR := Lib.hid lR
  have HLO := Lib.hid llo
  clear A1 A2 e5 h1 h2 h3 hl hL hM c2 ll lR llo
  go_enter Try.func38, Try.ntmps38
  go_upto_region 1 with fail
  change Code.wp _ _ _ _ ((w.alloc (.cells (us l) 63)).alloc (.cells z3 58))
  have hsz : ((w.alloc (.cells (us l) 63)).alloc (.cells z3 58)).heap.size = w.heap.size + 2 := by rw [alloc_size, alloc_size]
  generalize (w.alloc (.cells (us l) 63)).alloc (.cells z3 58) = w0 at hE hsz ⊢
  obtain ⟨i1, i2, hb⟩ := hE
  obtain ⟨k0, k1, k2⟩ := h0 w0 i1
  go_upto_region 2 with fail
  clear k0 k1 k2 h0
  have hw : w0.alloc (.cells #[U64 x0, U64 x1, U64 x3] 58) = w0.alloc (.cells (us lo) 58) := by rw [hlow]; rfl
  change Code.wp _ _ _ _ (w0.alloc (.cells #[U64 x0, U64 x1, U64 x3] 58))
  rw [hw]
  clear hw
  have i3 : Has (w0.alloc (.cells (us lo) 58)) (w.heap.size + 2) 58 (us lo) := by rw [← hsz]; exact Has.fresh w0 58 _
  replace i1 := i1.alloc (.cells (us lo) 58)
  replace i2 := i2.alloc (.cells (us lo) 58)
  replace hb := hb.alloc hb.size (.cells (us lo) 58)
  have hsz2 : (w0.alloc (.cells (us lo) 58)).heap.size = w.heap.size + 3 := by rw [alloc_size, hsz]
  generalize w0.alloc (.cells (us lo) 58) = w1 at i1 i2 i3 hb hsz2 ⊢
  clear hsz w0
  have hE2 := two_new w1 z3 z3 58 58
  rw [hsz2] at hE2
  have E : FoldEnv w l lo ((onceL l).take 0 ++ List.replicate (3 - 0) 0) ((fourL l).take 0 ++ List.replicate (3 - 0) 0) ((w1.alloc (.cells z3 58)).alloc (.cells z3 58)) :=
    ⟨(i1.alloc _).alloc _, (i2.alloc _).alloc _, (i3.alloc _).alloc _, hE2.1, hE2.2.1, (hb.alloc hb.size _).alloc (by rw [alloc_size]; have := hb.size; omega) _⟩
  go_upto_region 3 with fail
  change Code.wp _ _ _ _ ((w1.alloc (.cells z3 58)).alloc (.cells z3 58))
  generalize (w1.alloc (.cells z3 58)).alloc (.cells z3 58) = w2 at E ⊢
  clear hE2 i1 i2 i3 hb hsz2 w1 hlow hm
  go_wp2
  go_loopw [15] (fun i wr => ∃ (j : Nat), j ≤ 3 ∧ i = .int .i64 (j : Int) ∧ FoldEnv w l lo ((onceL l).take j ++ List.replicate (3 - j) 0) ((fourL l).take j ++ List.replicate (3 - j) 0) wr) (fun i _ => 3 - (intOf i).toNat)
  case atStart => exact ⟨0, by omega, rfl, E⟩
  case round =>
    clear E w2
    obtain ⟨j, hj, rfl, E⟩ := hrel
    by_cases hlt : j < 3
    · have hjb : decide ((j : Int) < 3) = true := by simp; omega
      have hj3 : ¬ ((3 : Int) ≤ (j : Int)) := by omega
      have hq2 : IntKind.i64.wrap ((j : Int) + 2) = ((j + 2 : Nat) : Int) := by rw [IntWalk.i64_in _ (by omega)]; omega
      have hq3 : IntKind.i64.wrap ((j : Int) + 3) = ((j + 3 : Nat) : Int) := by rw [IntWalk.i64_in _ (by omega)]; omega
      have hb2 : ¬ ((6 : Int) ≤ ((j + 2 : Nat) : Int)) := by omega
      have hb3 : ¬ ((6 : Int) ≤ ((j + 3 : Nat) : Int)) := by omega
      have c1 := E.1.drew.u64 (j + 2) (by rw [HLL.out]; omega)
      have c2 := E.1.drew.u64 (j + 3) (by rw [HLL.out]; omega)
      have c3 := E.2.2.2.1.drew.u64 j (by rw [pad_length _ _ _ (by rw [onceL_length]; omega) (by omega)]; omega)
      have f3 := E.2.2.2.1.drew.frozen j
      have d2 := dl.getD (by omega) (j + 2)
      have hor := or_shift (l.getD (j + 2) 0) (l.getD (j + 3) 0) d2
      rw [← onceL_get l j hlt] at hor
      have E2 := (E.putB j ((onceL l).getD j 0)).drew
      rw [pad_set _ 3 j (by rw [onceL_length]; omega) (by omega)] at E2
      have E3 := E2.putC j ((fourL l).getD j 0)
      rw [pad_set _ 3 j (by rw [fourL_length]; omega) (by omega)] at E3
      have c4 := E2.2.2.2.2.1.u64 j (by rw [pad_length _ _ _ (by rw [fourL_length]; omega) (by omega)]; omega)
      have f4 := E2.2.2.2.2.1.frozen j
      have c5 := E2.1.u64 (j + 2) (by rw [HLL.out]; omega)
      rw [fourL_get l j hlt] at E3
      generalize (List.take j (onceL l) ++ List.replicate (3 - j) 0).getD j 0 = m1 at c3
      generalize (List.take j (fourL l) ++ List.replicate (3 - j) 0).getD j 0 = m2 at c4
      generalize l.getD (j + 2) 0 = y at c1 c5 hor E3
      generalize l.getD (j + 3) 0 = z at c2 hor
      generalize (onceL l).getD j 0 = o at hor E2 E3 c4 f4 c5
      have HE3 := Lib.hid E3
      have HOR := Lib.hid hor
      clear E2 E3 E d2 hor
      generalize hqq2 : j + 2 = q2 at *
      generalize hqq3 : j + 3 = q3 at *
      go_wp2_with fail
      go_region
      rw [HOR.out]
      go_wp2
      go_roundw
      case rel => exact ⟨j + 1, by omega, by go_num, HE3.out⟩
      case measure => simp [intOf]; omega
    · have hj3 : j = 3 := by omega
      subst hj3
      have e1 : (onceL l).take 3 ++ List.replicate (3 - 3) 0 = onceL l := by rw [List.take_of_length_le (by rw [onceL_length]; omega)]; simp
      have e2 : (fourL l).take 3 ++ List.replicate (3 - 3) 0 = fourL l := by rw [List.take_of_length_le (by rw [fourL_length]; omega)]; simp
      rw [e1, e2] at E
      have f0 : (fourL l).getD 0 0 < 18446744073709551616 := by rw [fourL_get l 0 (by omega)]; exact dl.getD (by omega) _
      have c0 := E.2.2.2.2.1.u64 0 (by rw [fourL_length]; omega)
      have ff := E.2.2.2.2.1.frozen 0
      have hn := andNot3 _ f0
      have E2 := E.putC 0 (4 * ((fourL l).getD 0 0 / 4))
      have lb := onceL_length l
      have lc : ((fourL l).set 0 (4 * ((fourL l).getD 0 0 / 4))).length = 3 := by rw [List.length_set]; rfl
      generalize 4 * ((fourL l).getD 0 0 / 4) = v at hn E2 HA1 lc
      generalize (fourL l).getD 0 0 = x at c0 hn
      generalize (fourL l).set 0 v = c at E2 HA1 lc
      generalize onceL l = b at E2 HA1 lb
      have HE2 := Lib.hid E2
      have HLB := Lib.hid lb
      have HLC := Lib.hid lc
      clear E E2 e1 e2 f0 lb lc
      go_wp2_with fail
      change Code.wp _ _ _ _ (wr.setCell ⟨w.heap.size + 4, 0, none⟩ (U64 v))
      have E := HE2.out.drew
      clear HE2
      generalize hW : wr.setCell ⟨w.heap.size + 4, 0, none⟩ (U64 v) = w1 at E ⊢
      clear c0 ff hn hW
      refine wp_region_noPanic ?_
      refine wp_region_held_drew (S := fun W => Has W (w.heap.size + 2) 58 (us lo) ∧ Has W (w.heap.size + 3) 58 (us b) ∧ Has W (w.heap.size + 4) 58 (us c)) (by kernel_rfl) ⟨E.2.2.1, E.2.2.2.1, E.2.2.2.2.1⟩ (fun hS => ?_)
      refine take1 hS 0 42 (.agg (us lo)) _ rfl (by kernel_rfl) (by kernel_rfl) (by kernel_rfl) (fun _ _ _ h => h) rfl rfl (fun w' h => by exact exec_load_row 58 (.tmp 3) (w.heap.size + 2) h.1 Try.underlying58 rfl (info3 lo HLO.out) rfl rfl) ?_
      simp only [Act.put, List.setIfInBounds_toArray, List.set_cons_zero, List.set_cons_succ]
      refine take1 hS 1 43 (.agg (us b)) _ rfl (by kernel_rfl) (by kernel_rfl) (by kernel_rfl) (fun _ _ _ h => h) rfl rfl (fun w' h => by exact exec_load_row 58 (.tmp 4) (w.heap.size + 3) h.2.1 Try.underlying58 rfl (info3 b HLB.out) rfl rfl) ?_
      simp only [Act.put, List.setIfInBounds_toArray, List.set_cons_zero, List.set_cons_succ]
      refine take1 hS 2 44 (.agg (us c)) _ rfl (by kernel_rfl) (by kernel_rfl) (by kernel_rfl) (fun _ _ _ h => h) rfl rfl (fun w' h => by exact exec_load_row 58 (.tmp 5) (w.heap.size + 4) h.2.2 Try.underlying58 rfl (info3 c HLC.out) rfl rfl) ?_
      simp only [Act.put, List.setIfInBounds_toArray, List.set_cons_zero, List.set_cons_succ]
      have hc1 := HA1.out w1.drew
      refine onlyCall 3 45 _ _ _ (by kernel_rfl) rfl rfl rfl (by go_simp) hc1 ?_
      rintro e w2 ⟨rfl, hb2⟩
      replace E := E.step hb2
      refine ⟨_, rfl, ⟨E.2.2.1, E.2.2.2.1, E.2.2.2.2.1⟩, ?_⟩
      simp only [Act.put, List.setIfInBounds_toArray, List.set_cons_zero, List.set_cons_succ]
      clear hS hc1 hb2 w1
      have hc2 := HA2.out w2
      refine onlyCall 4 46 _ _ _ (by kernel_rfl) rfl rfl rfl (by go_simp) hc2 ?_
      rintro e w3 ⟨rfl, hb2⟩
      replace E := E.step hb2
      refine ⟨_, rfl, ⟨E.2.2.1, E.2.2.2.1, E.2.2.2.2.1⟩, ?_⟩
      simp only [Act.put, List.setIfInBounds_toArray, List.set_cons_zero, List.set_cons_succ]
      clear hc2 hb2 w2
      refine onlySkip 5 (w3.setRow (w.heap.size + 1) (us R)) _ (by kernel_rfl) rfl rfl rfl (exec_store_row 58 (.tmp 2) (.tmp 46) (w.heap.size + 1) (us R) E.2.1 (info3 R HLR.out) (z3_size R HLR.out) (us_one R) rfl rfl rfl) ⟨E.2.2.1.setRow_other (by omega) _, E.2.2.2.1.setRow_other (by omega) _, E.2.2.2.2.1.setRow_other (by omega) _⟩ ?_
      refine wpAnyH_done (by kernel_rfl) ?_ _
      refine NoPanic.normal ?_
      go_wp2
      refine bodyPost_ret (v := .agg (us R)) (results_cell_row rfl _ _ (w.heap.size + 1) 58 (us R) (0, 0) _ rfl (E.2.1.setRow _) Try.underlying58 rfl (info3 R HLR.out)) rfl ⟨rfl, below_setRow E.2.2.2.2.2 (by omega) _⟩
end Go.Proofs.Ytfhjokbbaoldiaa
