/- nd.sum, Print: walked. -/
import Derived.Test.YtkjkmnaiddjjnaaLC
namespace Go.Proofs.Ytkjkmnaiddjjnaa
open Go.RowKit
set_option maxHeartbeats 1000000 in
theorem sum_any (x : N10) (hx : x.Fit) (A B : List UInt8) (hA : A.length ≤ 1000) (hB : B.length ≤ 1000) (w : World) :
    Calls Try.prog 18 #[.agg x.c, .string ⟨A.toArray⟩, .string ⟨B.toArray⟩] w fun e w' => e = .returned (.string ⟨(sumB x.f x.t A B).toArray⟩) ∧ Below w.heap.size w w' := by
  have M : Mem w [(w.heap.size, 32, x.c)] (w.alloc (.cells x.c 32)) := (Mem.init w).alloc _ rfl _ _
  have q0 := fun W => two_nat 0 (by omega) W
  have qa := fun W => addresses_any x hx W
  have q58 := fun W => fourN 58 (by omega) W
  have l0 : (beTail 0 2).length = 2 := beTail_length _ _
  have l58 : (beTail 58 4).length = 4 := beTail_length _ _
  have lf := hx.f
  have lt := hx.t
  unfold sumB coverL
  generalize beTail 58 4 = F at q58 l58 ⊢
  generalize beTail 0 2 = Z at q0 l0 ⊢
  have hc1 : (⟨A.toArray⟩ : ByteArray) ++ ⟨Z.toArray⟩ = ⟨(A ++ Z).toArray⟩ := cat_str _ _
  have hc2 : (⟨(A ++ Z).toArray⟩ : ByteArray) ++ ⟨B.toArray⟩ = ⟨((A ++ Z) ++ B).toArray⟩ := cat_str _ _
  have s1 : (A ++ Z).length ≤ 1002 := by rw [List.length_append]; omega
  generalize A ++ Z = Y at hc1 hc2 s1 ⊢
  have s2 : (Y ++ B).length ≤ 2002 := by rw [List.length_append]; omega
  generalize Y ++ B = X at hc2 s2 ⊢
  have qn := fun W => fourN X.length (by omega) W
  have ln : (beTail X.length 4).length = 4 := beTail_length _ _
  generalize beTail X.length 4 = N at qn ln ⊢
  have s3 : (x.f ++ x.t).length = 32 := by rw [List.length_append]; omega
  generalize x.f ++ x.t = T1 at qa s3 ⊢
  have hc3 : (⟨T1.toArray⟩ : ByteArray) ++ ⟨N.toArray⟩ = ⟨(T1 ++ N).toArray⟩ := cat_str _ _
  have s4 : (T1 ++ N).length = 36 := by rw [List.length_append]; omega
  generalize T1 ++ N = T2 at hc3 s4 ⊢
  have hc4 : (⟨T2.toArray⟩ : ByteArray) ++ ⟨F.toArray⟩ = ⟨(T2 ++ F).toArray⟩ := cat_str _ _
  have s5 : (T2 ++ F).length = 40 := by rw [List.length_append]; omega
  generalize T2 ++ F = T3 at hc4 s5 ⊢
  have hc5 : (⟨T3.toArray⟩ : ByteArray) ++ ⟨X.toArray⟩ = ⟨(T3 ++ X).toArray⟩ := cat_str _ _
  have s6 : (T3 ++ X).length ≤ 2100 := by rw [List.length_append]; omega
  generalize T3 ++ X = T4 at hc5 s6 ⊢
  have qs := fun W => sum16_any ⟨T4.toArray⟩ (by rw [str_size]; omega) W
  rw [str_list] at qs
  have q2 := fun W => two_nat (sum16 T4) (by have := sum16_le T4; omega) W
  generalize sum16 T4 = S at qs q2 ⊢
  generalize beTail S 2 = R at q2 ⊢
  have b1 : ¬ (9223372036854775807 < (⟨A.toArray⟩ : ByteArray).size + (⟨Z.toArray⟩ : ByteArray).size) := by rw [str_size, str_size]; omega
  have b2 : ¬ (9223372036854775807 < (⟨Y.toArray⟩ : ByteArray).size + (⟨B.toArray⟩ : ByteArray).size) := by rw [str_size, str_size]; omega
  have b3 : ¬ (9223372036854775807 < (⟨T1.toArray⟩ : ByteArray).size + (⟨N.toArray⟩ : ByteArray).size) := by rw [str_size, str_size]; omega
  have b4 : ¬ (9223372036854775807 < (⟨T2.toArray⟩ : ByteArray).size + (⟨F.toArray⟩ : ByteArray).size) := by rw [str_size, str_size]; omega
  have b5 : ¬ (9223372036854775807 < (⟨T3.toArray⟩ : ByteArray).size + (⟨X.toArray⟩ : ByteArray).size) := by rw [str_size, str_size]; omega
  have Q0 := Lib.hid q0
  have QA := Lib.hid qa
  have Q58 := Lib.hid q58
  have QN := Lib.hid qn
  have QS := Lib.hid qs
  have Q2 := Lib.hid q2
  have HC := Lib.hid (And.intro hc1 (And.intro hc2 (And.intro hc3 (And.intro hc4 hc5))))
  have HB := Lib.hid (And.intro b1 (And.intro b2 (And.intro b3 (And.intro b4 b5))))
  clear q0 qa q58 qn qs q2 hc1 hc2 hc3 hc4 hc5 b1 b2 b3 b4 b5 l0 l58 lf lt s1 s2 s3 s4 s5 s6 ln hA hB
  go_enter Try.func18, Try.ntmps18
  go_upto_region 1 with fail
  change Code.wp _ _ _ _ (w.alloc (.cells x.c 32))
  generalize w.alloc (.cells x.c 32) = W0 at M ⊢
  refine wp_region_noPanic ?_
  refine wp_region_flow_text (fin := ?fin1) 6 0 (by kernel_rfl) [.inl (.string ⟨A.toArray⟩),
    .inl (.string ⟨Z.toArray⟩),
    .inl (.string ⟨Y.toArray⟩),
    .inl (.string ⟨B.toArray⟩),
    .inl (.string ⟨X.toArray⟩),
    .inl (.string ⟨X.toArray⟩)] rfl rfl (by kernel_rfl) ?hfin1 ?hE1 ?hend1
  case hfin1 =>
    intro G
    simp only [flowAll, flowVal, Act.put, List.setIfInBounds_toArray, List.set_cons_zero, List.set_cons_succ]
    exact rfl
  case hE1 =>
    intro G
    refine ⟨Or.inr (fun W hB hR => known_val rfl (by go_simp)),
      Or.inr (fun W hB hR => known_call 25 #[.int .i64 0] (Q0.out W) rfl (by go_simp)),
      Or.inr (fun W hB hR => known_val rfl (by exact exec_cat (.tmp 8) (.tmp 9) _ _ _ HC.out.1 HB.out.1 rfl rfl rfl)),
      Or.inr (fun W hB hR => known_val rfl (by go_simp)),
      Or.inr (fun W hB hR => known_val rfl (by exact exec_cat (.tmp 10) (.tmp 11) _ _ _ HC.out.2.1 HB.out.2.1 rfl rfl rfl)),
      Or.inr (fun W hB hR => known_val rfl (by go_simp)), trivial⟩
  intro G W hB hM
  replace M := M.step hB
  clear hB hM
  refine wpAny_end (by kernel_rfl) ?_ _
  refine NoPanic.normal ?_
  clear G
  go_upto_region 2 with fail
  refine wp_region_noPanic ?_
  refine wp_region_flow_text (fin := ?fin2) 13 0 (by kernel_rfl) [.inl (.agg x.c),
    .inl (.string ⟨T1.toArray⟩),
    .inl (.string ⟨X.toArray⟩),
    .inl (.int .i64 (X.length : Int)),
    .inl (.string ⟨N.toArray⟩),
    .inl (.string ⟨T2.toArray⟩),
    .inl (.string ⟨F.toArray⟩),
    .inl (.string ⟨T3.toArray⟩),
    .inl (.string ⟨X.toArray⟩),
    .inl (.string ⟨T4.toArray⟩),
    .inl (.int .i64 (S : Int)),
    .inl (.string ⟨R.toArray⟩),
    .inl (.string ⟨R.toArray⟩)] rfl rfl (by kernel_rfl) ?hfin2 ?hE2 ?hend2
  case hfin2 =>
    intro G
    simp only [flowAll, flowVal, Act.put, List.setIfInBounds_toArray, List.set_cons_zero, List.set_cons_succ]
    exact rfl
  case hE2 =>
    intro G
    refine ⟨Or.inr (fun W hB hR => known_val rfl (by exact exec_load_row 32 (.tmp 3) w.heap.size ((M.step hB).row 0 rfl) Try.underlying32 rfl (n10_info hx) rfl rfl)),
      Or.inr (fun W hB hR => known_call 20 #[.agg x.c] (QA.out W) rfl (by go_simp)),
      Or.inr (fun W hB hR => known_val rfl (by go_simp)),
      Or.inr (fun W hB hR => known_val rfl (by go_simp)),
      Or.inr (fun W hB hR => known_call 28 #[.int .i64 (X.length : Int)] (QN.out W) rfl (by go_simp)),
      Or.inr (fun W hB hR => known_val rfl (by exact exec_cat (.tmp 14) (.tmp 17) _ _ _ HC.out.2.2.1 HB.out.2.2.1 rfl rfl rfl)),
      Or.inr (fun W hB hR => known_call 28 #[.int .i64 58] (Q58.out W) rfl (by go_simp)),
      Or.inr (fun W hB hR => known_val rfl (by exact exec_cat (.tmp 18) (.tmp 19) _ _ _ HC.out.2.2.2.1 HB.out.2.2.2.1 rfl rfl rfl)),
      Or.inr (fun W hB hR => known_val rfl (by go_simp)),
      Or.inr (fun W hB hR => known_val rfl (by exact exec_cat (.tmp 20) (.tmp 21) _ _ _ HC.out.2.2.2.2 HB.out.2.2.2.2 rfl rfl rfl)),
      Or.inr (fun W hB hR => known_call 27 #[.string ⟨T4.toArray⟩] ((QS.out W).mono (fun e w' h => ⟨h.1, h.2 ▸ Below.refl _ _⟩)) rfl (by go_simp)),
      Or.inr (fun W hB hR => known_call 25 #[.int .i64 (S : Int)] (Q2.out W) rfl (by go_simp)),
      Or.inr (fun W hB hR => known_val rfl (by go_simp)), trivial⟩
  intro G W hB hM
  replace M := M.step hB
  clear hB hM
  refine wpAny_end (by kernel_rfl) ?_ _
  refine NoPanic.normal ?_
  go_wp2
  go_ret
  exact ⟨rfl, M.below⟩
theorem print10_no (x : N10) (hr : rightO x.op = false) (w : World) : Calls Try.prog 8 #[.agg x.c] w fun e w' => e = .returned (.tuple #[.string ⟨([] : List UInt8).toArray⟩, .int .i64 3]) ∧ Below w.heap.size w w' := by
  have M : Mem w [(w.heap.size, 32, x.c)] (w.alloc (.cells x.c 32)) := (Mem.init w).alloc _ rfl _ _
  have co := (M.row 0 rfl).n_op
  have h1 := fun W => rightOp10_any x.op W
  rw [hr] at h1
  have H1 := Lib.hid h1
  have HM := Lib.hid M
  clear h1 hr M
  go_enter Try.func8, Try.ntmps8
  go_wp2_with (go_at_call 15; refine (H1.out _).mono ?_; rintro e w1 ⟨rfl, rfl⟩)
  go_ret2
  exact ⟨rfl, HM.out.below⟩
theorem build_o6 {o : Oper} {ev : Operand → Value} {w : World} (ho : o.op = .build 24 #[]) : (execOp ev o).run Try.prog w = .ok (.value (.agg (bs o6))) w := by
  refine exec_build 24 _ _ ho ?_
  simp only [List.map_toArray, List.map_nil]
  kernel_rfl
theorem print10_mac (x : N10) (hx : x.Fit) (hr : rightO x.op = true) (hh : x.h = false) (hm : (x.m == o6) = false) (w : World) : Calls Try.prog 8 #[.agg x.c] w fun e w' => e = .returned (.tuple #[.string ⟨([] : List UInt8).toArray⟩, .int .i64 3]) ∧ Below w.heap.size w w' := by
  have M : Mem w [(w.heap.size, 32, x.c)] (w.alloc (.cells x.c 32)) := (Mem.init w).alloc _ rfl _ _
  have r0 := M.row 0 rfl
  have co := r0.n_op
  have ch := r0.n_h hx
  rw [hh] at ch
  have h1 := fun W => rightOp10_any x.op W
  rw [hr] at h1
  have hne : (x.m != o6) = true := by unfold bne; rw [hm]; rfl
  have H1 := Lib.hid h1
  have HM := Lib.hid M
  have HN := Lib.hid hne
  clear h1 hr M hne hm
  go_enter Try.func8, Try.ntmps8
  go_wp2_with (first
    | (go_at_call 15; refine (H1.out _).mono ?_; rintro e w1 ⟨rfl, rfl⟩)
    | (refine wpExecG (by kernel_rfl) (.agg (bs x.m)) (exec10_m r0 hx _ rfl rfl) ?_)
    | (refine wpExecG (by kernel_rfl) (.agg (bs o6)) (build_o6 rfl) ?_)
    | (refine wpExecG (by kernel_rfl) (.bool true) (by rw [← HN.out]; exact exec_neqB 24 6 Try.underlying24 (by kernel_rfl) _ _ x.m o6 hx.m rfl rfl rfl rfl) ?_))
  go_ret2
  exact ⟨rfl, HM.out.below⟩
set_option maxRecDepth 20000 in
set_option maxHeartbeats 1000000 in
theorem print10_full (x : N10) (hx : x.Fit) (hr : rightO x.op = true) (hh : x.h = true) (w : World) : Calls Try.prog 8 #[.agg x.c] w fun e w' => e = .returned (.tuple #[.string ⟨x.bytes.toArray⟩, .int .i64 0]) ∧ Below w.heap.size w w' := by
  have M : Mem w [(w.heap.size, 32, x.c)] (w.alloc (.cells x.c 32)) := (Mem.init w).alloc _ rfl _ _
  have r0 := M.row 0 rfl
  have co := r0.n_op
  have ch := r0.n_h hx
  rw [hh] at ch
  have h1 := fun W => rightOp10_any x.op W
  rw [hr] at h1
  obtain ⟨K, hK, hK2⟩ : ∃ K : Nat, x.op = K ∧ K < 100 := by
    rcases rightO_spec hr with e | e
    · exact ⟨1, e, by omega⟩
    · exact ⟨2, e, by omega⟩
  have hKn : x.op.toNat = K := by rw [hK]; rfl
  have qst := fun W => start_any K hK2 W
  have qsa := fun W => station_any x hx K hK W
  have lst : (startL K).length = 2 := rfl
  have lbeh : x.beh.length ≤ 28 := by rw [N10.beh_length hx]; split <;> omega
  have lsta : x.stat.length ≤ 8 := by rw [N10.stat_length hx]; split <;> omega
  have qsum := fun W => sum_any x hx (startL K) x.beh (by rw [lst]; omega) (by omega) W
  have lmsg : x.msg.length ≤ 32 := by rw [N10.msg_length hx]; split <;> omega
  have qsz := fun W => sizes_any x.msg.length (by omega) W
  have qad := fun W => addresses_any x hx W
  have lsum := sumB_length x.f x.t (startL K) x.beh
  have lsz := sizesL_length x.msg.length
  have lf := hx.f
  have lt := hx.t
  have la := hx.a
  have lg := hx.g
  have lm := hx.m
  have hbeh : x.beh = (x.g ++ x.a) ++ x.stat := rfl
  have hmsg : x.msg = (startL K ++ sumB x.f x.t (startL K) x.beh) ++ x.beh := by unfold N10.msg; rw [hKn]
  have hbytes : x.bytes = ((([96, 0, 0, 0] : List UInt8) ++ sizesL x.msg.length) ++ (x.f ++ x.t)) ++ x.msg := rfl
  generalize x.bytes = R at hbytes ⊢
  generalize sizesL x.msg.length = Z at qsz lsz hbytes
  generalize sumB x.f x.t (startL K) x.beh = U at qsum lsum hmsg
  generalize x.msg = X at hmsg qsz lmsg hbytes
  generalize x.beh = Y at hbeh hmsg qsum lbeh
  generalize x.stat = V at hbeh qsa lsta
  generalize startL K = A at qst lst hmsg qsum
  have hc1 : (⟨x.g.toArray⟩ : ByteArray) ++ ⟨x.a.toArray⟩ = ⟨(x.g ++ x.a).toArray⟩ := cat_str _ _
  have s1 : (x.g ++ x.a).length = 20 := by rw [List.length_append]; omega
  generalize x.g ++ x.a = Y1 at hbeh hc1 s1
  have hc2 : (⟨Y1.toArray⟩ : ByteArray) ++ ⟨V.toArray⟩ = ⟨Y.toArray⟩ := by rw [hbeh]; exact cat_str _ _
  have hc3 : (⟨A.toArray⟩ : ByteArray) ++ ⟨U.toArray⟩ = ⟨(A ++ U).toArray⟩ := cat_str _ _
  have s3 : (A ++ U).length = 4 := by rw [List.length_append]; omega
  generalize A ++ U = X1 at hmsg hc3 s3
  have hc4 : (⟨X1.toArray⟩ : ByteArray) ++ ⟨Y.toArray⟩ = ⟨X.toArray⟩ := by rw [hmsg]; exact cat_str _ _
  have l96 : ([96, 0, 0, 0] : List UInt8).length = 4 := rfl
  have hc5 : (⟨([96, 0, 0, 0] : List UInt8).toArray⟩ : ByteArray) ++ ⟨Z.toArray⟩ = ⟨([96, 0, 0, 0] ++ Z).toArray⟩ := cat_str _ _
  have s5 : (([96, 0, 0, 0] : List UInt8) ++ Z).length = 8 := by rw [List.length_append]; omega
  generalize ([96, 0, 0, 0] : List UInt8) ++ Z = R1 at hbytes hc5 s5
  have s6 : (x.f ++ x.t).length = 32 := by rw [List.length_append]; omega
  generalize x.f ++ x.t = T at hbytes qad s6
  have hc6 : (⟨R1.toArray⟩ : ByteArray) ++ ⟨T.toArray⟩ = ⟨(R1 ++ T).toArray⟩ := cat_str _ _
  have s7 : (R1 ++ T).length = 40 := by rw [List.length_append]; omega
  generalize R1 ++ T = R2 at hbytes hc6 s7
  have hc7 : (⟨R2.toArray⟩ : ByteArray) ++ ⟨X.toArray⟩ = ⟨R.toArray⟩ := by rw [hbytes]; exact cat_str _ _
  have HC := Lib.hid (And.intro hc1 (And.intro hc2 (And.intro hc3 (And.intro hc4 (And.intro hc5 (And.intro hc6 hc7))))))
  have HS := Lib.hid (And.intro s1 (And.intro s3 (And.intro s5 (And.intro s6 (And.intro s7 (And.intro lst (And.intro lsum lsz)))))))
  have HL := Lib.hid (And.intro lg (And.intro la (And.intro lbeh (And.intro lsta lmsg))))
  have HK := Lib.hid hK
  have H1 := Lib.hid h1
  have QST := Lib.hid qst
  have QSA := Lib.hid qsa
  have QSUM := Lib.hid qsum
  have QSZ := Lib.hid qsz
  have QAD := Lib.hid qad
  clear h1 hr qst qsa qsum qsz qad hK hKn hK2 lst lbeh lsta lmsg lsum lsz lf lt la lg lm hbeh hmsg hbytes hc1 hc2 hc3 hc4 hc5 hc6 hc7 s1 s3 s5 s6 s7 l96
  go_enter Try.func8, Try.ntmps8
  go_upto_region 3 with (first
    | (go_at_call 15; refine (H1.out _).mono ?_; rintro e w1 ⟨rfl, rfl⟩))
  clear co ch r0
  change Code.wp _ _ _ _ (w.alloc (.cells x.c 32))
  generalize w.alloc (.cells x.c 32) = W0 at M ⊢
  refine wp_region_noPanic ?_
  refine wp_region_flow_text (fin := ?fin3) 4 0 (by kernel_rfl) [.inl (.pointer (some ⟨w.heap.size, 0, none⟩)),
    .inl (.int .i64 (K : Int)),
    .inl (.string ⟨A.toArray⟩),
    .inl (.string ⟨A.toArray⟩)] rfl rfl (by kernel_rfl) ?hfin3 ?hE3 ?hend3
  case hfin3 =>
    intro G
    simp only [flowAll, flowVal, Act.put, List.setIfInBounds_toArray, List.set_cons_zero, List.set_cons_succ]
    exact rfl
  case hE3 =>
    intro G
    refine ⟨Or.inr (fun W hB hR => known_val rfl (by go_simp)),
      Or.inr (fun W hB hR => known_val rfl (by have := ((M.step hB).row 0 rfl).n_op; rw [HK.out] at this; go_simp)),
      Or.inr (fun W hB hR => known_call 16 #[.int .i64 (K : Int)] (QST.out W) rfl (by go_simp)),
      Or.inr (fun W hB hR => known_val rfl (by go_simp)), trivial⟩
  intro G W hB hM
  replace M := M.step hB
  clear hB hM
  refine wpAny_end (by kernel_rfl) ?_ _
  refine NoPanic.normal ?_
  clear G
  go_upto_region 4 with fail
  refine wp_region_noPanic ?_
  refine wp_region_flow (fin := ?fin4) 11 0 (by kernel_rfl) [.inl (.pointer (some ⟨w.heap.size, 56, none⟩)),
    .inl (.slice (some ⟨w.heap.size, 56, none⟩) 4 4),
    .inl (.string ⟨x.g.toArray⟩),
    .inl (.pointer (some ⟨w.heap.size, 33, none⟩)),
    .inl (.slice (some ⟨w.heap.size, 33, none⟩) 16 16),
    .inl (.string ⟨x.a.toArray⟩),
    .inl (.string ⟨Y1.toArray⟩),
    .inl (.agg x.c),
    .inl (.string ⟨V.toArray⟩),
    .inl (.string ⟨Y.toArray⟩),
    .inl (.string ⟨Y.toArray⟩)] rfl rfl (by kernel_rfl) ?hfin4 ?hE4 ?hend4
  case hfin4 =>
    intro G
    simp only [flowAll, flowVal, Act.put, List.setIfInBounds_toArray, List.set_cons_zero, List.set_cons_succ]
    exact rfl
  case hE4 =>
    intro G
    refine ⟨Or.inr (fun W hB hR => known_val rfl (by go_simp)),
      Or.inr (fun W hB hR => known_val rfl (by go_simp)),
      Or.inr (fun W hB hR => known_val rfl (by have := conv_range (((M.drew.step hB).row 0 rfl).n_g hx) 4 4 HL.out.1; go_simp)),
      Or.inr (fun W hB hR => known_val rfl (by go_simp)),
      Or.inr (fun W hB hR => known_val rfl (by go_simp)),
      Or.inr (fun W hB hR => known_val rfl (by have := conv_range (((M.drew.step hB).row 0 rfl).n_a hx) 16 16 HL.out.2.1; go_simp)),
      Or.inr (fun W hB hR => known_val rfl (by exact exec_cat (.tmp 28) (.tmp 31) _ _ _ HC.out.1 (by rw [str_size, str_size, HL.out.1, HL.out.2.1]; decide) rfl rfl rfl)),
      Or.inr (fun W hB hR => known_val rfl (by exact exec_load_row 32 (.tmp 1) w.heap.size ((M.drew.step hB).row 0 rfl) Try.underlying32 rfl (n10_info hx) rfl rfl)),
      Or.inr (fun W hB hR => known_call 17 #[.agg x.c] (QSA.out W) rfl (by go_simp)),
      Or.inr (fun W hB hR => known_val rfl (by exact exec_cat (.tmp 32) (.tmp 34) _ _ _ HC.out.2.1 (by rw [str_size, str_size, HS.out.1]; have := HL.out.2.2.2.1; omega) rfl rfl rfl)),
      Or.inr (fun W hB hR => known_val rfl (by go_simp)), trivial⟩
  intro G W hB hM
  replace M := M.drew.step hB
  clear hB hM
  refine wpAny_end (by kernel_rfl) ?_ _
  refine NoPanic.normal ?_
  clear G
  go_upto_region 5 with fail
  refine wp_region_noPanic ?_
  refine wp_region_flow_text (fin := ?fin5) 9 0 (by kernel_rfl) [.inl (.string ⟨A.toArray⟩),
    .inl (.agg x.c),
    .inl (.string ⟨A.toArray⟩),
    .inl (.string ⟨Y.toArray⟩),
    .inl (.string ⟨U.toArray⟩),
    .inl (.string ⟨X1.toArray⟩),
    .inl (.string ⟨Y.toArray⟩),
    .inl (.string ⟨X.toArray⟩),
    .inl (.string ⟨X.toArray⟩)] rfl rfl (by kernel_rfl) ?hfin5 ?hE5 ?hend5
  case hfin5 =>
    intro G
    simp only [flowAll, flowVal, Act.put, List.setIfInBounds_toArray, List.set_cons_zero, List.set_cons_succ]
    exact rfl
  case hE5 =>
    intro G
    refine ⟨Or.inr (fun W hB hR => known_val rfl (by go_simp)),
      Or.inr (fun W hB hR => known_val rfl (by exact exec_load_row 32 (.tmp 1) w.heap.size ((M.step hB).row 0 rfl) Try.underlying32 rfl (n10_info hx) rfl rfl)),
      Or.inr (fun W hB hR => known_val rfl (by go_simp)),
      Or.inr (fun W hB hR => known_val rfl (by go_simp)),
      Or.inr (fun W hB hR => known_call 18 #[.agg x.c, .string ⟨A.toArray⟩, .string ⟨Y.toArray⟩] (QSUM.out W) rfl (by go_simp)),
      Or.inr (fun W hB hR => known_val rfl (by exact exec_cat (.tmp 36) (.tmp 40) _ _ _ HC.out.2.2.1 (by rw [str_size, str_size, HS.out.2.2.2.2.2.1, HS.out.2.2.2.2.2.2.1]; decide) rfl rfl rfl)),
      Or.inr (fun W hB hR => known_val rfl (by go_simp)),
      Or.inr (fun W hB hR => known_val rfl (by exact exec_cat (.tmp 41) (.tmp 42) _ _ _ HC.out.2.2.2.1 (by rw [str_size, str_size, HS.out.2.1]; have := HL.out.2.2.1; omega) rfl rfl rfl)),
      Or.inr (fun W hB hR => known_val rfl (by go_simp)), trivial⟩
  intro G W hB hM
  replace M := M.step hB
  clear hB hM
  refine wpAny_end (by kernel_rfl) ?_ _
  refine NoPanic.normal ?_
  clear G
  go_upto_region 6 with fail
  refine wp_region_noPanic ?_
  refine wp_region_flow (fin := ?fin6) 10 0 (by kernel_rfl) [.inr (5, bs [96, 0, 0, 0], some 4),
    .inl (.string ⟨([96, 0, 0, 0] : List UInt8).toArray⟩),
    .inl (.string ⟨X.toArray⟩),
    .inl (.int .i64 (X.length : Int)),
    .inl (.string ⟨Z.toArray⟩),
    .inl (.string ⟨R1.toArray⟩),
    .inl (.agg x.c),
    .inl (.string ⟨T.toArray⟩),
    .inl (.string ⟨R2.toArray⟩),
    .inl (.string ⟨R2.toArray⟩)] rfl rfl (by kernel_rfl) ?hfin6 ?hE6 ?hend6
  case hfin6 =>
    intro G
    simp only [flowAll, flowVal, Act.put, List.setIfInBounds_toArray, List.set_cons_zero, List.set_cons_succ]
    exact rfl
  case hE6 =>
    intro G
    refine ⟨⟨rfl, fun W => made_slice (by unfold execOp; go_simp; rfl)⟩,
      Or.inr (fun W hB hR => known_val rfl (by have hrow := conv_bytes (hR 0 _ _ _ rfl (by kernel_rfl)) 4 4 rfl; go_simp)),
      Or.inr (fun W hB hR => known_val rfl (by go_simp)),
      Or.inr (fun W hB hR => known_val rfl (by go_simp)),
      Or.inr (fun W hB hR => known_call 19 #[.int .i64 (X.length : Int)] (QSZ.out W) rfl (by go_simp)),
      Or.inr (fun W hB hR => known_val rfl (by exact exec_cat (.tmp 45) (.tmp 48) _ _ _ HC.out.2.2.2.2.1 (by rw [str_size, str_size, HS.out.2.2.2.2.2.2.2]; decide) rfl rfl rfl)),
      Or.inr (fun W hB hR => known_val rfl (by exact exec_load_row 32 (.tmp 1) w.heap.size ((M.drew.step hB).row 0 rfl) Try.underlying32 rfl (n10_info hx) rfl rfl)),
      Or.inr (fun W hB hR => known_call 20 #[.agg x.c] (QAD.out W) rfl (by go_simp)),
      Or.inr (fun W hB hR => known_val rfl (by exact exec_cat (.tmp 49) (.tmp 51) _ _ _ HC.out.2.2.2.2.2.1 (by rw [str_size, str_size, HS.out.2.2.1, HS.out.2.2.2.1]; decide) rfl rfl rfl)),
      Or.inr (fun W hB hR => known_val rfl (by go_simp)), trivial⟩
  intro G W hB hM
  replace M := M.drew.step hB
  clear hB hM
  refine wpAny_end (by kernel_rfl) ?_ _
  refine NoPanic.normal ?_
  go_upto_region 7 with fail
  refine wp_region_noPanic ?_
  refine wp_region_flow_text (fin := ?fin7) 5 0 (by kernel_rfl) [.inl (.string ⟨R2.toArray⟩),
    .inl (.string ⟨X.toArray⟩),
    .inl (.string ⟨R.toArray⟩),
    .inl (.string ⟨R.toArray⟩),
    .inl (.int .i64 0)] rfl rfl (by kernel_rfl) ?hfin7 ?hE7 ?hend7
  case hfin7 =>
    intro G
    simp only [flowAll, flowVal, Act.put, List.setIfInBounds_toArray, List.set_cons_zero, List.set_cons_succ]
    exact rfl
  case hE7 =>
    intro G
    refine ⟨Or.inr (fun W hB hR => known_val rfl (by go_simp)),
      Or.inr (fun W hB hR => known_val rfl (by go_simp)),
      Or.inr (fun W hB hR => known_val rfl (by exact exec_cat (.tmp 53) (.tmp 54) _ _ _ HC.out.2.2.2.2.2.2 (by rw [str_size, str_size, HS.out.2.2.2.2.1]; have := HL.out.2.2.2.2; omega) rfl rfl rfl)),
      Or.inr (fun W hB hR => known_val rfl (by go_simp)),
      Or.inr (fun W hB hR => known_val rfl (by go_simp)), trivial⟩
  intro G W hB hM
  replace M := M.step hB
  clear hB hM
  refine wpAny_end (by kernel_rfl) ?_ _
  refine NoPanic.normal ?_
  go_wp2
  go_ret2
  exact ⟨rfl, M.below⟩
set_option maxRecDepth 20000 in
set_option maxHeartbeats 1000000 in
theorem print10_bare (x : N10) (hx : x.Fit) (hr : rightO x.op = true) (hh : x.h = false) (hm : x.m = o6) (w : World) : Calls Try.prog 8 #[.agg x.c] w fun e w' => e = .returned (.tuple #[.string ⟨x.bytes.toArray⟩, .int .i64 0]) ∧ Below w.heap.size w w' := by
  have M : Mem w [(w.heap.size, 32, x.c)] (w.alloc (.cells x.c 32)) := (Mem.init w).alloc _ rfl _ _
  have r0 := M.row 0 rfl
  have co := r0.n_op
  have ch := r0.n_h hx
  rw [hh] at ch
  have h1 := fun W => rightOp10_any x.op W
  rw [hr] at h1
  obtain ⟨K, hK, hK2⟩ : ∃ K : Nat, x.op = K ∧ K < 100 := by
    rcases rightO_spec hr with e | e
    · exact ⟨1, e, by omega⟩
    · exact ⟨2, e, by omega⟩
  have hKn : x.op.toNat = K := by rw [hK]; rfl
  have qst := fun W => start_any K hK2 W
  have qsa := fun W => station_any x hx K hK W
  have lst : (startL K).length = 2 := rfl
  have lbeh : x.beh.length ≤ 28 := by rw [N10.beh_length hx]; split <;> omega
  have lsta : x.stat.length ≤ 8 := by rw [N10.stat_length hx]; split <;> omega
  have qsum := fun W => sum_any x hx (startL K) x.beh (by rw [lst]; omega) (by omega) W
  have lmsg : x.msg.length ≤ 32 := by rw [N10.msg_length hx]; split <;> omega
  have qsz := fun W => sizes_any x.msg.length (by omega) W
  have qad := fun W => addresses_any x hx W
  have lsum := sumB_length x.f x.t (startL K) x.beh
  have lsz := sizesL_length x.msg.length
  have lf := hx.f
  have lt := hx.t
  have la := hx.a
  have lg := hx.g
  have lm := hx.m
  have hbeh : x.beh = (x.g ++ x.a) ++ x.stat := rfl
  have hmsg : x.msg = (startL K ++ sumB x.f x.t (startL K) x.beh) ++ x.beh := by unfold N10.msg; rw [hKn]
  have hbytes : x.bytes = ((([96, 0, 0, 0] : List UInt8) ++ sizesL x.msg.length) ++ (x.f ++ x.t)) ++ x.msg := rfl
  generalize x.bytes = R at hbytes ⊢
  generalize sizesL x.msg.length = Z at qsz lsz hbytes
  generalize sumB x.f x.t (startL K) x.beh = U at qsum lsum hmsg
  generalize x.msg = X at hmsg qsz lmsg hbytes
  generalize x.beh = Y at hbeh hmsg qsum lbeh
  generalize x.stat = V at hbeh qsa lsta
  generalize startL K = A at qst lst hmsg qsum
  have hc1 : (⟨x.g.toArray⟩ : ByteArray) ++ ⟨x.a.toArray⟩ = ⟨(x.g ++ x.a).toArray⟩ := cat_str _ _
  have s1 : (x.g ++ x.a).length = 20 := by rw [List.length_append]; omega
  generalize x.g ++ x.a = Y1 at hbeh hc1 s1
  have hc2 : (⟨Y1.toArray⟩ : ByteArray) ++ ⟨V.toArray⟩ = ⟨Y.toArray⟩ := by rw [hbeh]; exact cat_str _ _
  have hc3 : (⟨A.toArray⟩ : ByteArray) ++ ⟨U.toArray⟩ = ⟨(A ++ U).toArray⟩ := cat_str _ _
  have s3 : (A ++ U).length = 4 := by rw [List.length_append]; omega
  generalize A ++ U = X1 at hmsg hc3 s3
  have hc4 : (⟨X1.toArray⟩ : ByteArray) ++ ⟨Y.toArray⟩ = ⟨X.toArray⟩ := by rw [hmsg]; exact cat_str _ _
  have l96 : ([96, 0, 0, 0] : List UInt8).length = 4 := rfl
  have hc5 : (⟨([96, 0, 0, 0] : List UInt8).toArray⟩ : ByteArray) ++ ⟨Z.toArray⟩ = ⟨([96, 0, 0, 0] ++ Z).toArray⟩ := cat_str _ _
  have s5 : (([96, 0, 0, 0] : List UInt8) ++ Z).length = 8 := by rw [List.length_append]; omega
  generalize ([96, 0, 0, 0] : List UInt8) ++ Z = R1 at hbytes hc5 s5
  have s6 : (x.f ++ x.t).length = 32 := by rw [List.length_append]; omega
  generalize x.f ++ x.t = T at hbytes qad s6
  have hc6 : (⟨R1.toArray⟩ : ByteArray) ++ ⟨T.toArray⟩ = ⟨(R1 ++ T).toArray⟩ := cat_str _ _
  have s7 : (R1 ++ T).length = 40 := by rw [List.length_append]; omega
  generalize R1 ++ T = R2 at hbytes hc6 s7
  have hc7 : (⟨R2.toArray⟩ : ByteArray) ++ ⟨X.toArray⟩ = ⟨R.toArray⟩ := by rw [hbytes]; exact cat_str _ _
  have HC := Lib.hid (And.intro hc1 (And.intro hc2 (And.intro hc3 (And.intro hc4 (And.intro hc5 (And.intro hc6 hc7))))))
  have HS := Lib.hid (And.intro s1 (And.intro s3 (And.intro s5 (And.intro s6 (And.intro s7 (And.intro lst (And.intro lsum lsz)))))))
  have HL := Lib.hid (And.intro lg (And.intro la (And.intro lbeh (And.intro lsta lmsg))))
  have HK := Lib.hid hK
  have H1 := Lib.hid h1
  have QST := Lib.hid qst
  have QSA := Lib.hid qsa
  have QSUM := Lib.hid qsum
  have QSZ := Lib.hid qsz
  have QAD := Lib.hid qad
  have hne : (x.m != o6) = false := by rw [hm]; rfl
  have HN := Lib.hid hne
  clear hne hm
  clear h1 hr qst qsa qsum qsz qad hK hKn hK2 lst lbeh lsta lmsg lsum lsz lf lt la lg lm hbeh hmsg hbytes hc1 hc2 hc3 hc4 hc5 hc6 hc7 s1 s3 s5 s6 s7 l96
  go_enter Try.func8, Try.ntmps8
  go_upto_region 3 with (first
    | (go_at_call 15; refine (H1.out _).mono ?_; rintro e w1 ⟨rfl, rfl⟩)
    | (refine wpExecG (by kernel_rfl) (.agg (bs x.m)) (exec10_m r0 hx _ rfl rfl) ?_)
    | (refine wpExecG (by kernel_rfl) (.agg (bs o6)) (build_o6 rfl) ?_)
    | (refine wpExecG (by kernel_rfl) (.bool false) (by rw [← HN.out]; exact exec_neqB 24 6 Try.underlying24 (by kernel_rfl) _ _ x.m o6 hx.m rfl rfl rfl rfl) ?_))
  clear co ch r0
  change Code.wp _ _ _ _ (w.alloc (.cells x.c 32))
  generalize w.alloc (.cells x.c 32) = W0 at M ⊢
  refine wp_region_noPanic ?_
  refine wp_region_flow_text (fin := ?fin8) 4 0 (by kernel_rfl) [.inl (.pointer (some ⟨w.heap.size, 0, none⟩)),
    .inl (.int .i64 (K : Int)),
    .inl (.string ⟨A.toArray⟩),
    .inl (.string ⟨A.toArray⟩)] rfl rfl (by kernel_rfl) ?hfin8 ?hE8 ?hend8
  case hfin8 =>
    intro G
    simp only [flowAll, flowVal, Act.put, List.setIfInBounds_toArray, List.set_cons_zero, List.set_cons_succ]
    exact rfl
  case hE8 =>
    intro G
    refine ⟨Or.inr (fun W hB hR => known_val rfl (by go_simp)),
      Or.inr (fun W hB hR => known_val rfl (by have := ((M.step hB).row 0 rfl).n_op; rw [HK.out] at this; go_simp)),
      Or.inr (fun W hB hR => known_call 16 #[.int .i64 (K : Int)] (QST.out W) rfl (by go_simp)),
      Or.inr (fun W hB hR => known_val rfl (by go_simp)), trivial⟩
  intro G W hB hM
  replace M := M.step hB
  clear hB hM
  refine wpAny_end (by kernel_rfl) ?_ _
  refine NoPanic.normal ?_
  clear G
  go_upto_region 4 with fail
  refine wp_region_noPanic ?_
  refine wp_region_flow (fin := ?fin9) 11 0 (by kernel_rfl) [.inl (.pointer (some ⟨w.heap.size, 56, none⟩)),
    .inl (.slice (some ⟨w.heap.size, 56, none⟩) 4 4),
    .inl (.string ⟨x.g.toArray⟩),
    .inl (.pointer (some ⟨w.heap.size, 33, none⟩)),
    .inl (.slice (some ⟨w.heap.size, 33, none⟩) 16 16),
    .inl (.string ⟨x.a.toArray⟩),
    .inl (.string ⟨Y1.toArray⟩),
    .inl (.agg x.c),
    .inl (.string ⟨V.toArray⟩),
    .inl (.string ⟨Y.toArray⟩),
    .inl (.string ⟨Y.toArray⟩)] rfl rfl (by kernel_rfl) ?hfin9 ?hE9 ?hend9
  case hfin9 =>
    intro G
    simp only [flowAll, flowVal, Act.put, List.setIfInBounds_toArray, List.set_cons_zero, List.set_cons_succ]
    exact rfl
  case hE9 =>
    intro G
    refine ⟨Or.inr (fun W hB hR => known_val rfl (by go_simp)),
      Or.inr (fun W hB hR => known_val rfl (by go_simp)),
      Or.inr (fun W hB hR => known_val rfl (by have := conv_range (((M.drew.step hB).row 0 rfl).n_g hx) 4 4 HL.out.1; go_simp)),
      Or.inr (fun W hB hR => known_val rfl (by go_simp)),
      Or.inr (fun W hB hR => known_val rfl (by go_simp)),
      Or.inr (fun W hB hR => known_val rfl (by have := conv_range (((M.drew.step hB).row 0 rfl).n_a hx) 16 16 HL.out.2.1; go_simp)),
      Or.inr (fun W hB hR => known_val rfl (by exact exec_cat (.tmp 28) (.tmp 31) _ _ _ HC.out.1 (by rw [str_size, str_size, HL.out.1, HL.out.2.1]; decide) rfl rfl rfl)),
      Or.inr (fun W hB hR => known_val rfl (by exact exec_load_row 32 (.tmp 1) w.heap.size ((M.drew.step hB).row 0 rfl) Try.underlying32 rfl (n10_info hx) rfl rfl)),
      Or.inr (fun W hB hR => known_call 17 #[.agg x.c] (QSA.out W) rfl (by go_simp)),
      Or.inr (fun W hB hR => known_val rfl (by exact exec_cat (.tmp 32) (.tmp 34) _ _ _ HC.out.2.1 (by rw [str_size, str_size, HS.out.1]; have := HL.out.2.2.2.1; omega) rfl rfl rfl)),
      Or.inr (fun W hB hR => known_val rfl (by go_simp)), trivial⟩
  intro G W hB hM
  replace M := M.drew.step hB
  clear hB hM
  refine wpAny_end (by kernel_rfl) ?_ _
  refine NoPanic.normal ?_
  clear G
  go_upto_region 5 with fail
  refine wp_region_noPanic ?_
  refine wp_region_flow_text (fin := ?fin10) 9 0 (by kernel_rfl) [.inl (.string ⟨A.toArray⟩),
    .inl (.agg x.c),
    .inl (.string ⟨A.toArray⟩),
    .inl (.string ⟨Y.toArray⟩),
    .inl (.string ⟨U.toArray⟩),
    .inl (.string ⟨X1.toArray⟩),
    .inl (.string ⟨Y.toArray⟩),
    .inl (.string ⟨X.toArray⟩),
    .inl (.string ⟨X.toArray⟩)] rfl rfl (by kernel_rfl) ?hfin10 ?hE10 ?hend10
  case hfin10 =>
    intro G
    simp only [flowAll, flowVal, Act.put, List.setIfInBounds_toArray, List.set_cons_zero, List.set_cons_succ]
    exact rfl
  case hE10 =>
    intro G
    refine ⟨Or.inr (fun W hB hR => known_val rfl (by go_simp)),
      Or.inr (fun W hB hR => known_val rfl (by exact exec_load_row 32 (.tmp 1) w.heap.size ((M.step hB).row 0 rfl) Try.underlying32 rfl (n10_info hx) rfl rfl)),
      Or.inr (fun W hB hR => known_val rfl (by go_simp)),
      Or.inr (fun W hB hR => known_val rfl (by go_simp)),
      Or.inr (fun W hB hR => known_call 18 #[.agg x.c, .string ⟨A.toArray⟩, .string ⟨Y.toArray⟩] (QSUM.out W) rfl (by go_simp)),
      Or.inr (fun W hB hR => known_val rfl (by exact exec_cat (.tmp 36) (.tmp 40) _ _ _ HC.out.2.2.1 (by rw [str_size, str_size, HS.out.2.2.2.2.2.1, HS.out.2.2.2.2.2.2.1]; decide) rfl rfl rfl)),
      Or.inr (fun W hB hR => known_val rfl (by go_simp)),
      Or.inr (fun W hB hR => known_val rfl (by exact exec_cat (.tmp 41) (.tmp 42) _ _ _ HC.out.2.2.2.1 (by rw [str_size, str_size, HS.out.2.1]; have := HL.out.2.2.1; omega) rfl rfl rfl)),
      Or.inr (fun W hB hR => known_val rfl (by go_simp)), trivial⟩
  intro G W hB hM
  replace M := M.step hB
  clear hB hM
  refine wpAny_end (by kernel_rfl) ?_ _
  refine NoPanic.normal ?_
  clear G
  go_upto_region 6 with fail
  refine wp_region_noPanic ?_
  refine wp_region_flow (fin := ?fin11) 10 0 (by kernel_rfl) [.inr (5, bs [96, 0, 0, 0], some 4),
    .inl (.string ⟨([96, 0, 0, 0] : List UInt8).toArray⟩),
    .inl (.string ⟨X.toArray⟩),
    .inl (.int .i64 (X.length : Int)),
    .inl (.string ⟨Z.toArray⟩),
    .inl (.string ⟨R1.toArray⟩),
    .inl (.agg x.c),
    .inl (.string ⟨T.toArray⟩),
    .inl (.string ⟨R2.toArray⟩),
    .inl (.string ⟨R2.toArray⟩)] rfl rfl (by kernel_rfl) ?hfin11 ?hE11 ?hend11
  case hfin11 =>
    intro G
    simp only [flowAll, flowVal, Act.put, List.setIfInBounds_toArray, List.set_cons_zero, List.set_cons_succ]
    exact rfl
  case hE11 =>
    intro G
    refine ⟨⟨rfl, fun W => made_slice (by unfold execOp; go_simp; rfl)⟩,
      Or.inr (fun W hB hR => known_val rfl (by have hrow := conv_bytes (hR 0 _ _ _ rfl (by kernel_rfl)) 4 4 rfl; go_simp)),
      Or.inr (fun W hB hR => known_val rfl (by go_simp)),
      Or.inr (fun W hB hR => known_val rfl (by go_simp)),
      Or.inr (fun W hB hR => known_call 19 #[.int .i64 (X.length : Int)] (QSZ.out W) rfl (by go_simp)),
      Or.inr (fun W hB hR => known_val rfl (by exact exec_cat (.tmp 45) (.tmp 48) _ _ _ HC.out.2.2.2.2.1 (by rw [str_size, str_size, HS.out.2.2.2.2.2.2.2]; decide) rfl rfl rfl)),
      Or.inr (fun W hB hR => known_val rfl (by exact exec_load_row 32 (.tmp 1) w.heap.size ((M.drew.step hB).row 0 rfl) Try.underlying32 rfl (n10_info hx) rfl rfl)),
      Or.inr (fun W hB hR => known_call 20 #[.agg x.c] (QAD.out W) rfl (by go_simp)),
      Or.inr (fun W hB hR => known_val rfl (by exact exec_cat (.tmp 49) (.tmp 51) _ _ _ HC.out.2.2.2.2.2.1 (by rw [str_size, str_size, HS.out.2.2.1, HS.out.2.2.2.1]; decide) rfl rfl rfl)),
      Or.inr (fun W hB hR => known_val rfl (by go_simp)), trivial⟩
  intro G W hB hM
  replace M := M.drew.step hB
  clear hB hM
  refine wpAny_end (by kernel_rfl) ?_ _
  refine NoPanic.normal ?_
  go_upto_region 7 with fail
  refine wp_region_noPanic ?_
  refine wp_region_flow_text (fin := ?fin12) 5 0 (by kernel_rfl) [.inl (.string ⟨R2.toArray⟩),
    .inl (.string ⟨X.toArray⟩),
    .inl (.string ⟨R.toArray⟩),
    .inl (.string ⟨R.toArray⟩),
    .inl (.int .i64 0)] rfl rfl (by kernel_rfl) ?hfin12 ?hE12 ?hend12
  case hfin12 =>
    intro G
    simp only [flowAll, flowVal, Act.put, List.setIfInBounds_toArray, List.set_cons_zero, List.set_cons_succ]
    exact rfl
  case hE12 =>
    intro G
    refine ⟨Or.inr (fun W hB hR => known_val rfl (by go_simp)),
      Or.inr (fun W hB hR => known_val rfl (by go_simp)),
      Or.inr (fun W hB hR => known_val rfl (by exact exec_cat (.tmp 53) (.tmp 54) _ _ _ HC.out.2.2.2.2.2.2 (by rw [str_size, str_size, HS.out.2.2.2.2.1]; have := HL.out.2.2.2.2; omega) rfl rfl rfl)),
      Or.inr (fun W hB hR => known_val rfl (by go_simp)),
      Or.inr (fun W hB hR => known_val rfl (by go_simp)), trivial⟩
  intro G W hB hM
  replace M := M.step hB
  clear hB hM
  refine wpAny_end (by kernel_rfl) ?_ _
  refine NoPanic.normal ?_
  go_wp2
  go_ret2
  exact ⟨rfl, M.below⟩
/-- Print, whatever the question or answer -/
theorem print10_any (x : N10) (hx : x.Fit) (w : World) :
    Calls Try.prog 8 #[.agg x.c] w fun e w' => e = .returned (.tuple #[.string ⟨(print10 x).1.toArray⟩, .int .i64 (print10 x).2]) ∧ Below w.heap.size w w' := by
  unfold print10 N10.right
  cases hr : rightO x.op with
  | false => exact print10_no x hr w
  | true =>
    cases hh : x.h with
    | true => exact print10_full x hx hr hh w
    | false =>
      cases hm : x.m == o6 with
      | true => exact print10_bare x hx hr hh (by simpa using hm) w
      | false => exact print10_mac x hx hr hh hm w
end Go.Proofs.Ytkjkmnaiddjjnaa
