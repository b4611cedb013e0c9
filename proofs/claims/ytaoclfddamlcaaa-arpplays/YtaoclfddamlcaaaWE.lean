/- arp.Print: walked, whatever the question or answer. -/
import Derived.Test.YtaoclfddamlcaaaWD
namespace Go.Proofs.Ytaoclfddamlcaaa
open Go.RowKit
theorem print9_no (x : A9) (hr : rightO x.op = false) (w : World) : Calls Try.prog 8 #[.agg x.c] w fun e w' => e = .returned (.tuple #[.string ⟨([] : List UInt8).toArray⟩, .int .i64 3]) ∧ Below w.heap.size w w' := by
  have M : Mem w [(w.heap.size, 31, x.c)] (w.alloc (.cells x.c 31)) := (Mem.init w).alloc _ rfl _ _
  have co := (M.row 0 rfl).aop
  have h1 := fun W => rightOp_any x.op W
  rw [hr] at h1
  have H1 := Lib.hid h1
  have HM := Lib.hid M
  clear h1 hr M
  go_enter Try.func8, Try.ntmps8
  go_wp2_with (go_at_call 17; refine (H1.out _).mono ?_; rintro e w1 ⟨rfl, rfl⟩)
  go_ret2
  exact ⟨rfl, HM.out.below⟩
set_option maxRecDepth 20000 in
set_option maxHeartbeats 1000000 in
theorem print9_yes (x : A9) (hx : x.Fit) (hr : rightO x.op = true) (w : World) : Calls Try.prog 8 #[.agg x.c] w fun e w' => e = .returned (.tuple #[.string ⟨x.bytes.toArray⟩, .int .i64 0]) ∧ Below w.heap.size w w' := by
  have M : Mem w [(w.heap.size, 31, x.c)] (w.alloc (.cells x.c 31)) := (Mem.init w).alloc _ rfl _ _
  have co := (M.row 0 rfl).aop
  have h1 := fun W => rightOp_any x.op W
  rw [hr] at h1
  have hk : ∃ K : Nat, x.op = K ∧ K < 65536 := by
    rcases rightO_spec hr with e | e
    · exact ⟨1, e, by omega⟩
    · exact ⟨2, e, by omega⟩
  obtain ⟨K, hK, hK2⟩ := hk
  have h2 := fun W => two_nat K hK2 W
  have h3 := fun W => head_any W
  have hb : x.bytes = (((((headL ++ beTail K 2) ++ x.m) ++ x.i) ++ x.t) ++ x.w) := by
    unfold A9.bytes
    rw [hK]
    simp only [List.append_assoc, Int.toNat_natCast]
  rw [hb]
  have hl0 : headL.length = 6 := rfl
  have hl2 := beTail_length K 2
  have hc1 : (⟨headL.toArray⟩ : ByteArray) ++ ⟨(beTail K 2).toArray⟩ = ⟨(headL ++ beTail K 2).toArray⟩ := cat_str _ _
  have hs1 : (headL ++ beTail K 2).length = 8 := by rw [List.length_append, hl0, hl2]
  have hlm := hx.m
  have hlt := hx.t
  have hli := hx.i
  have hlw := hx.w
  generalize headL = A0 at h3 hc1 hl0 hs1 ⊢
  generalize beTail K 2 = Y at h2 hc1 hl2 hs1 ⊢
  obtain ⟨A1, hA1⟩ : ∃ A1, A0 ++ Y = A1 := ⟨_, rfl⟩
  rw [hA1] at hc1 hs1 ⊢
  have hc2 : (⟨A1.toArray⟩ : ByteArray) ++ ⟨x.m.toArray⟩ = ⟨(A1 ++ x.m).toArray⟩ := cat_str _ _
  have hs2 : (A1 ++ x.m).length = 14 := by rw [List.length_append, hs1, hlm]
  obtain ⟨A2, hA2⟩ : ∃ A2, A1 ++ x.m = A2 := ⟨_, rfl⟩
  rw [hA2] at hc2 hs2 ⊢
  have hc3 : (⟨A2.toArray⟩ : ByteArray) ++ ⟨x.i.toArray⟩ = ⟨(A2 ++ x.i).toArray⟩ := cat_str _ _
  have hs3 : (A2 ++ x.i).length = 18 := by rw [List.length_append, hs2, hli]
  obtain ⟨A3, hA3⟩ : ∃ A3, A2 ++ x.i = A3 := ⟨_, rfl⟩
  rw [hA3] at hc3 hs3 ⊢
  have hc4 : (⟨A3.toArray⟩ : ByteArray) ++ ⟨x.t.toArray⟩ = ⟨(A3 ++ x.t).toArray⟩ := cat_str _ _
  have hs4 : (A3 ++ x.t).length = 24 := by rw [List.length_append, hs3, hlt]
  obtain ⟨A4, hA4⟩ : ∃ A4, A3 ++ x.t = A4 := ⟨_, rfl⟩
  rw [hA4] at hc4 hs4 ⊢
  have hc5 : (⟨A4.toArray⟩ : ByteArray) ++ ⟨x.w.toArray⟩ = ⟨(A4 ++ x.w).toArray⟩ := cat_str _ _
  obtain ⟨R, hR0⟩ : ∃ R, A4 ++ x.w = R := ⟨_, rfl⟩
  rw [hR0] at hc5 ⊢
  have HCAT := Lib.hid (And.intro hc1 (And.intro hc2 (And.intro hc3 (And.intro hc4 hc5))))
  have HLEN := Lib.hid (And.intro hl0 (And.intro hl2 (And.intro hs1 (And.intro hs2 (And.intro hs3 hs4)))))
  have HL := Lib.hid (And.intro hlm (And.intro hlt (And.intro hli hlw)))
  have H1 := Lib.hid h1
  have H2 := Lib.hid h2
  have H3 := Lib.hid h3
  have HK := Lib.hid hK
  clear h1 h2 h3 hb hr hc1 hc2 hc3 hc4 hc5 hs1 hs2 hs3 hs4 hA1 hA2 hA3 hA4 hR0 hl0 hl2 hlm hlt hli hlw hK2
  rw [hK] at co
  clear hK
  go_enter Try.func8, Try.ntmps8
  go_upto_region 3 with (go_at_call 17; rw [← HK.out]; refine (H1.out _).mono ?_; rintro e w1 ⟨rfl, rfl⟩)
  clear co
  generalize w.alloc (.cells x.c 31) = W0 at M ⊢
  refine wp_region_noPanic ?_
  refine wp_region_flow (fin := ?fin1) 23 0 (by kernel_rfl) [.inl (.string ⟨A0.toArray⟩),
    .inl (.pointer (some ⟨w.heap.size, 0, none⟩)),
    .inl (.int .i64 (K : Int)),
    .inl (.string ⟨Y.toArray⟩),
    .inl (.string ⟨A1.toArray⟩),
    .inl (.pointer (some ⟨w.heap.size, 1, none⟩)),
    .inl (.slice (some ⟨w.heap.size, 1, none⟩) 6 6),
    .inl (.string ⟨x.m.toArray⟩),
    .inl (.string ⟨A2.toArray⟩),
    .inl (.pointer (some ⟨w.heap.size, 13, none⟩)),
    .inl (.slice (some ⟨w.heap.size, 13, none⟩) 4 4),
    .inl (.string ⟨x.i.toArray⟩),
    .inl (.string ⟨A3.toArray⟩),
    .inl (.pointer (some ⟨w.heap.size, 7, none⟩)),
    .inl (.slice (some ⟨w.heap.size, 7, none⟩) 6 6),
    .inl (.string ⟨x.t.toArray⟩),
    .inl (.string ⟨A4.toArray⟩),
    .inl (.pointer (some ⟨w.heap.size, 17, none⟩)),
    .inl (.slice (some ⟨w.heap.size, 17, none⟩) 4 4),
    .inl (.string ⟨x.w.toArray⟩),
    .inl (.string ⟨R.toArray⟩),
    .inl (.string ⟨R.toArray⟩),
    .inl (.int .i64 0)] rfl rfl (by kernel_rfl) ?hfin1 ?hE1 ?hend1
  case hfin1 =>
    intro G
    simp only [flowAll, flowVal, Act.put, List.setIfInBounds_toArray, List.set_cons_zero, List.set_cons_succ]
    exact rfl
  case hE1 =>
    intro G
    refine ⟨Or.inr (fun W hB hR => known_call 18 #[] (H3.out W) rfl (by go_simp)),
      Or.inr (fun W hB hR => known_val rfl (by go_simp)),
      Or.inr (fun W hB hR => known_val rfl (by have := ((M.drew.step hB).row 0 rfl).aop; rw [HK.out] at this; go_simp)),
      Or.inr (fun W hB hR => known_call 19 #[.int .i64 (K : Int)] (H2.out W) rfl (by go_simp)),
      Or.inr (fun W hB hR => known_val rfl (by exact exec_cat (.tmp 8) (.tmp 11) _ _ _ HCAT.out.1 (by rw [str_size, str_size, HLEN.out.1, HLEN.out.2.1]; omega) rfl rfl rfl)),
      Or.inr (fun W hB hR => known_val rfl (by go_simp)),
      Or.inr (fun W hB hR => known_val rfl (by go_simp)),
      Or.inr (fun W hB hR => known_val rfl (by have := conv_range (((M.drew.step hB).row 0 rfl).am) 6 6 HL.out.1; go_simp)),
      Or.inr (fun W hB hR => known_val rfl (by exact exec_cat (.tmp 12) (.tmp 15) _ _ _ HCAT.out.2.1 (by rw [str_size, str_size, HLEN.out.2.2.1, HL.out.1]; omega) rfl rfl rfl)),
      Or.inr (fun W hB hR => known_val rfl (by go_simp)),
      Or.inr (fun W hB hR => known_val rfl (by go_simp)),
      Or.inr (fun W hB hR => known_val rfl (by have := conv_range (((M.drew.step hB).row 0 rfl).ai hx) 4 4 HL.out.2.2.1; go_simp)),
      Or.inr (fun W hB hR => known_val rfl (by exact exec_cat (.tmp 16) (.tmp 19) _ _ _ HCAT.out.2.2.1 (by rw [str_size, str_size, HLEN.out.2.2.2.1, HL.out.2.2.1]; omega) rfl rfl rfl)),
      Or.inr (fun W hB hR => known_val rfl (by go_simp)),
      Or.inr (fun W hB hR => known_val rfl (by go_simp)),
      Or.inr (fun W hB hR => known_val rfl (by have := conv_range (((M.drew.step hB).row 0 rfl).at hx) 6 6 HL.out.2.1; go_simp)),
      Or.inr (fun W hB hR => known_val rfl (by exact exec_cat (.tmp 20) (.tmp 23) _ _ _ HCAT.out.2.2.2.1 (by rw [str_size, str_size, HLEN.out.2.2.2.2.1, HL.out.2.1]; omega) rfl rfl rfl)),
      Or.inr (fun W hB hR => known_val rfl (by go_simp)),
      Or.inr (fun W hB hR => known_val rfl (by go_simp)),
      Or.inr (fun W hB hR => known_val rfl (by have := conv_range (((M.drew.step hB).row 0 rfl).aw hx) 4 4 HL.out.2.2.2; go_simp)),
      Or.inr (fun W hB hR => known_val rfl (by exact exec_cat (.tmp 24) (.tmp 27) _ _ _ HCAT.out.2.2.2.2 (by rw [str_size, str_size, HLEN.out.2.2.2.2.2, HL.out.2.2.2]; omega) rfl rfl rfl)),
      Or.inr (fun W hB hR => known_val rfl (by go_simp)),
      Or.inr (fun W hB hR => known_val rfl (by go_simp)), trivial⟩
  intro G W hB hM
  replace M := M.drew.step hB
  clear hB hM G
  refine wpAny_end (by kernel_rfl) ?_ _
  refine NoPanic.normal ?_
  go_wp2
  go_ret2
  exact ⟨rfl, M.below⟩
/-- Print, whatever the question or answer -/
theorem print9_any (x : A9) (hx : x.Fit) (w : World) :
    Calls Try.prog 8 #[.agg x.c] w fun e w' => e = .returned (.tuple #[.string ⟨(print9 x).1.toArray⟩, .int .i64 (print9 x).2]) ∧ Below w.heap.size w w' := by
  unfold print9
  by_cases hr : rightO x.op = true
  · rw [if_pos hr]
    exact print9_yes x hx hr w
  · rw [if_neg hr]
    exact print9_no x (by simpa using hr) w
end Go.Proofs.Ytaoclfddamlcaaa
