/- The document's Print, Parse: walked. -/
import Derived.Test.YthpbhimmfmablaaTUH
namespace Go.Proofs.Ythpbhimmfmablaa
open Go.RowKit
theorem r12_info {x : G12} : (Try.prog.info? 24).map (·.size) = some x.c.size := by kernel_rfl
set_option maxRecDepth 20000 in
set_option maxHeartbeats 1000000 in
theorem refPrint12_few (x : G12) (h : x.k = 3) (hs : x.b.size < 16) (w : World) : Calls Try.prog 18 #[.agg x.c] w fun e w' => e = .returned (.tuple #[.string ⟨#[]⟩, .bool false]) ∧ Below w.heap.size w w' := by
  have hB : Below w.heap.size w (w.alloc (.cells x.c 24)) := (Below.refl _ _).alloc (Nat.le_refl _) _
  obtain ⟨k, n, b⟩ := x
  simp only at h hs
  subst h
  have hs2 : ¬ (16 : Int) ≤ (b.size : Int) := by omega
  go_enter Try.func18, Try.ntmps18
  go_wp2
  go_ret2
  exact ⟨rfl, hB⟩
set_option maxRecDepth 20000 in
set_option maxHeartbeats 1000000 in
theorem refPrint12_s1 (x : G12) (h : x.k = 1) (hs : x.b.size ≠ 48) (w : World) : Calls Try.prog 18 #[.agg x.c] w fun e w' => e = .returned (.tuple #[.string ⟨#[]⟩, .bool false]) ∧ Below w.heap.size w w' := by
  have hB : Below w.heap.size w (w.alloc (.cells x.c 24)) := (Below.refl _ _).alloc (Nat.le_refl _) _
  obtain ⟨k, n, b⟩ := x
  simp only at h hs
  subst h
  have hs2 : ((b.size : Int) == 48) = false := by simp; omega
  go_enter Try.func18, Try.ntmps18
  go_wp2
  go_ret2
  exact ⟨rfl, hB⟩
set_option maxRecDepth 20000 in
set_option maxHeartbeats 1000000 in
theorem refPrint12_n1 (x : G12) (h : x.k = 1) (hs : x.b.size = 48) (hn : x.n ≠ 0) (w : World) : Calls Try.prog 18 #[.agg x.c] w fun e w' => e = .returned (.tuple #[.string ⟨#[]⟩, .bool false]) ∧ Below w.heap.size w w' := by
  have hB : Below w.heap.size w (w.alloc (.cells x.c 24)) := (Below.refl _ _).alloc (Nat.le_refl _) _
  obtain ⟨k, n, b⟩ := x
  simp only at h hs hn
  subst h
  have hs2 : ((b.size : Int) == 48) = true := by simp; omega
  have hn2 : ((n : Int) == 0) = false := by simp; omega
  go_enter Try.func18, Try.ntmps18
  go_wp2
  go_ret2
  exact ⟨rfl, hB⟩
set_option maxRecDepth 20000 in
set_option maxHeartbeats 1000000 in
theorem refPrint12_s2 (x : G12) (h : x.k = 2) (hs : x.b.size ≠ 48) (w : World) : Calls Try.prog 18 #[.agg x.c] w fun e w' => e = .returned (.tuple #[.string ⟨#[]⟩, .bool false]) ∧ Below w.heap.size w w' := by
  have hB : Below w.heap.size w (w.alloc (.cells x.c 24)) := (Below.refl _ _).alloc (Nat.le_refl _) _
  obtain ⟨k, n, b⟩ := x
  simp only at h hs
  subst h
  have hs2 : ((b.size : Int) == 48) = false := by simp; omega
  go_enter Try.func18, Try.ntmps18
  go_wp2
  go_ret2
  exact ⟨rfl, hB⟩
set_option maxRecDepth 20000 in
set_option maxHeartbeats 1000000 in
theorem refPrint12_n2 (x : G12) (h : x.k = 2) (hs : x.b.size = 48) (hn : x.n ≠ 0) (w : World) : Calls Try.prog 18 #[.agg x.c] w fun e w' => e = .returned (.tuple #[.string ⟨#[]⟩, .bool false]) ∧ Below w.heap.size w w' := by
  have hB : Below w.heap.size w (w.alloc (.cells x.c 24)) := (Below.refl _ _).alloc (Nat.le_refl _) _
  obtain ⟨k, n, b⟩ := x
  simp only at h hs hn
  subst h
  have hs2 : ((b.size : Int) == 48) = true := by simp; omega
  have hn2 : ((n : Int) == 0) = false := by simp; omega
  go_enter Try.func18, Try.ntmps18
  go_wp2
  go_ret2
  exact ⟨rfl, hB⟩
set_option maxRecDepth 20000 in
set_option maxHeartbeats 1000000 in
theorem refPrint12_none (x : G12) (h : x.k ≠ 1) (h2 : x.k ≠ 2) (h3 : x.k ≠ 3) (w : World) : Calls Try.prog 18 #[.agg x.c] w fun e w' => e = .returned (.tuple #[.string ⟨#[]⟩, .bool false]) ∧ Below w.heap.size w w' := by
  have hB : Below w.heap.size w (w.alloc (.cells x.c 24)) := (Below.refl _ _).alloc (Nat.le_refl _) _
  obtain ⟨k, n, b⟩ := x
  simp only at h h2 h3
  go_enter Try.func18, Try.ntmps18
  go_wp2
  go_ret2
  exact ⟨rfl, hB⟩
set_option maxRecDepth 20000 in
set_option maxHeartbeats 1000000 in
theorem refPrint12_g1 (b : ByteArray) (hs : b.size = 48) (w : World) : Calls Try.prog 18 #[.agg (G12.mk 1 0 b).c] w fun e w' => e = .returned (.tuple #[.string (⟨[lowB1 1].toArray⟩ ++ b), .bool true]) ∧ Below w.heap.size w w' := by
  have M : Mem w [(w.heap.size, 24, (G12.mk 1 0 b).c)] (w.alloc (.cells (G12.mk 1 0 b).c 24)) := (Mem.init w).alloc _ rfl _ _
  have hs2 : ((b.size : Int) == 48) = true := by simp; omega
  go_enter Try.func18, Try.ntmps18
  go_upto_region 4 with fail
  change Code.wp _ _ _ _ (w.alloc (.cells (G12.mk 1 0 b).c 24))
  generalize w.alloc (.cells (G12.mk 1 0 b).c 24) = W0 at M ⊢
  refine wp_region_noPanic ?_
  refine wp_region_flow_text (fin := ?fin1) 10 0 (by kernel_rfl) [.inl (.pointer (some ⟨w.heap.size, 0, none⟩)),
    .inl (.int .i64 1),
    .inl (.int .u8 1),
    .inr (5, bs [1], some 1),
    .inl (.string ⟨[(1 : UInt8)].toArray⟩),
    .inl (.pointer (some ⟨w.heap.size, 2, none⟩)),
    .inl (.string b),
    .inl (.string (⟨[(1 : UInt8)].toArray⟩ ++ b)),
    .inl (.string (⟨[(1 : UInt8)].toArray⟩ ++ b)),
    .inl (.bool true)] rfl rfl (by kernel_rfl) ?hfin1 ?hE1 ?hend1
  case hfin1 =>
    intro G
    simp only [flowAll, flowVal, Act.put, List.setIfInBounds_toArray, List.set_cons_zero, List.set_cons_succ]
    exact rfl
  case hE1 =>
    intro G
    refine ⟨Or.inr (fun W hB hR => known_val rfl (by go_simp)),
      Or.inr (fun W hB hR => known_val rfl (by have := ((M.step hB).row 0 rfl).g_k; go_simp)),
      Or.inr (fun W hB hR => known_val rfl (by have hw : IntKind.u8.wrap 1 = 1 := (by decide); go_simp)),
      ⟨rfl, fun W => made_slice (by unfold execOp; go_simp; rfl)⟩,
      Or.inr (fun W hB hR => known_val rfl (by have hrow := conv_bytes (hR 3 _ _ _ rfl (by kernel_rfl)) 1 1 rfl; go_simp)),
      Or.inr (fun W hB hR => known_val rfl (by go_simp)),
      Or.inr (fun W hB hR => known_val rfl (by have := ((M.step hB).row 0 rfl).g_b; go_simp)),
      Or.inr (fun W hB hR => known_val rfl (by exact exec_cat _ _ _ _ _ rfl (by rw [str_size, hs]; decide) rfl rfl rfl)),
      Or.inr (fun W hB hR => known_val rfl (by go_simp)),
      Or.inr (fun W hB hR => known_val rfl (by go_simp)), trivial⟩
  intro G W hB hM
  replace M := M.step hB
  clear hB hM
  refine wpAny_end (by kernel_rfl) ?_ _
  refine NoPanic.normal ?_
  go_wp2
  go_ret2
  exact ⟨rfl, M.below⟩
set_option maxRecDepth 20000 in
set_option maxHeartbeats 1000000 in
theorem refPrint12_g2 (b : ByteArray) (hs : b.size = 48) (w : World) : Calls Try.prog 18 #[.agg (G12.mk 2 0 b).c] w fun e w' => e = .returned (.tuple #[.string (⟨[lowB1 2].toArray⟩ ++ b), .bool true]) ∧ Below w.heap.size w w' := by
  have M : Mem w [(w.heap.size, 24, (G12.mk 2 0 b).c)] (w.alloc (.cells (G12.mk 2 0 b).c 24)) := (Mem.init w).alloc _ rfl _ _
  have hs2 : ((b.size : Int) == 48) = true := by simp; omega
  go_enter Try.func18, Try.ntmps18
  go_upto_region 4 with fail
  change Code.wp _ _ _ _ (w.alloc (.cells (G12.mk 2 0 b).c 24))
  generalize w.alloc (.cells (G12.mk 2 0 b).c 24) = W0 at M ⊢
  refine wp_region_noPanic ?_
  refine wp_region_flow_text (fin := ?fin2) 10 0 (by kernel_rfl) [.inl (.pointer (some ⟨w.heap.size, 0, none⟩)),
    .inl (.int .i64 2),
    .inl (.int .u8 2),
    .inr (5, bs [2], some 1),
    .inl (.string ⟨[(2 : UInt8)].toArray⟩),
    .inl (.pointer (some ⟨w.heap.size, 2, none⟩)),
    .inl (.string b),
    .inl (.string (⟨[(2 : UInt8)].toArray⟩ ++ b)),
    .inl (.string (⟨[(2 : UInt8)].toArray⟩ ++ b)),
    .inl (.bool true)] rfl rfl (by kernel_rfl) ?hfin2 ?hE2 ?hend2
  case hfin2 =>
    intro G
    simp only [flowAll, flowVal, Act.put, List.setIfInBounds_toArray, List.set_cons_zero, List.set_cons_succ]
    exact rfl
  case hE2 =>
    intro G
    refine ⟨Or.inr (fun W hB hR => known_val rfl (by go_simp)),
      Or.inr (fun W hB hR => known_val rfl (by have := ((M.step hB).row 0 rfl).g_k; go_simp)),
      Or.inr (fun W hB hR => known_val rfl (by have hw : IntKind.u8.wrap 2 = 2 := (by decide); go_simp)),
      ⟨rfl, fun W => made_slice (by unfold execOp; go_simp; rfl)⟩,
      Or.inr (fun W hB hR => known_val rfl (by have hrow := conv_bytes (hR 3 _ _ _ rfl (by kernel_rfl)) 1 1 rfl; go_simp)),
      Or.inr (fun W hB hR => known_val rfl (by go_simp)),
      Or.inr (fun W hB hR => known_val rfl (by have := ((M.step hB).row 0 rfl).g_b; go_simp)),
      Or.inr (fun W hB hR => known_val rfl (by exact exec_cat _ _ _ _ _ rfl (by rw [str_size, hs]; decide) rfl rfl rfl)),
      Or.inr (fun W hB hR => known_val rfl (by go_simp)),
      Or.inr (fun W hB hR => known_val rfl (by go_simp)), trivial⟩
  intro G W hB hM
  replace M := M.step hB
  clear hB hM
  refine wpAny_end (by kernel_rfl) ?_ _
  refine NoPanic.normal ?_
  go_wp2
  go_ret2
  exact ⟨rfl, M.below⟩
set_option maxRecDepth 20000 in
set_option maxHeartbeats 1000000 in
theorem refPrint12_s (n : Nat) (b : ByteArray) (hn : n < 18446744073709551616) (hs : 16 ≤ b.size) (hs1 : b.size ≤ 1000000) (w : World) : Calls Try.prog 18 #[.agg (G12.mk 3 n b).c] w fun e w' => e = .returned (.tuple #[.string (⟨(3 :: beTail n 8).toArray⟩ ++ b), .bool true]) ∧ Below w.heap.size w w' := by
  have M : Mem w [(w.heap.size, 24, (G12.mk 3 n b).c)] (w.alloc (.cells (G12.mk 3 n b).c 24)) := (Mem.init w).alloc _ rfl _ _
  have hs2 : (16 : Int) ≤ (b.size : Int) := by omega
  have l1 := beTail_length n 8
  have hp1 := fun W => refEight_any n hn W
  generalize beTail n 8 = A at *
  have HP1 := Lib.hid hp1
  clear hp1
  go_enter Try.func18, Try.ntmps18
  go_upto_region 2 with fail
  change Code.wp _ _ _ _ (w.alloc (.cells (G12.mk 3 n b).c 24))
  generalize w.alloc (.cells (G12.mk 3 n b).c 24) = W0 at M ⊢
  refine wp_region_noPanic ?_
  refine wp_region_flow (fin := ?fin3) 9 0 (by kernel_rfl) [.inl (.pointer (some ⟨w.heap.size, 1, none⟩)),
    .inl (.int .u64 (n : Int)),
    .inl (.string ⟨A.toArray⟩),
    .inl (.string ⟨((3 : UInt8) :: A).toArray⟩),
    .inl (.pointer (some ⟨w.heap.size, 2, none⟩)),
    .inl (.string b),
    .inl (.string (⟨((3 : UInt8) :: A).toArray⟩ ++ b)),
    .inl (.string (⟨((3 : UInt8) :: A).toArray⟩ ++ b)),
    .inl (.bool true)] rfl rfl (by kernel_rfl) ?hfin3 ?hE3 ?hend3
  case hfin3 =>
    intro G
    simp only [flowAll, flowVal, Act.put, List.setIfInBounds_toArray, List.set_cons_zero, List.set_cons_succ]
    exact rfl
  case hE3 =>
    intro G
    refine ⟨Or.inr (fun W hB hR => known_val rfl (by go_simp)),
      Or.inr (fun W hB hR => known_val rfl (by have := ((M.drew.step hB).row 0 rfl).g_n; go_simp)),
      Or.inr (fun W hB hR => known_call 28 #[.int .u64 (n : Int)] (HP1.out _) rfl (by go_simp)),
      Or.inr (fun W hB hR => known_val rfl (by exact exec_cat _ _ _ _ _ (cat_str [3] A) (by rw [str_size, str_size, l1]; decide) rfl rfl rfl)),
      Or.inr (fun W hB hR => known_val rfl (by go_simp)),
      Or.inr (fun W hB hR => known_val rfl (by have := ((M.drew.step hB).row 0 rfl).g_b; go_simp)),
      Or.inr (fun W hB hR => known_val rfl (by exact exec_cat _ _ _ _ _ rfl (by rw [str_size, List.length_cons, l1]; omega) rfl rfl rfl)),
      Or.inr (fun W hB hR => known_val rfl (by go_simp)),
      Or.inr (fun W hB hR => known_val rfl (by go_simp)), trivial⟩
  intro G W hB hM
  replace M := M.drew.step hB
  clear hB hM
  refine wpAny_end (by kernel_rfl) ?_ _
  refine NoPanic.normal ?_
  go_wp2
  go_ret2
  exact ⟨rfl, M.below⟩
/-- the document's Print, whatever the datagram -/
theorem refPrint12_any (x : G12) (hn : x.n < 18446744073709551616) (hs : x.b.size ≤ 1000000) (w : World) : Calls Try.prog 18 #[.agg x.c] w fun e w' => e = .returned (.tuple #[.string (print12 x).1, .bool ((print12 x).2 == 0)]) ∧ Below w.heap.size w w' := by
  unfold print12
  by_cases h1 : x.k = 1
  · rw [if_pos (Or.inl h1)]
    by_cases h3 : x.b.size = 48
    · by_cases h2 : x.n = 0
      · rw [if_pos ⟨h2, h3⟩]
        obtain ⟨k, n, b⟩ := x
        simp only at h1 h2
        subst h1
        subst h2
        exact refPrint12_g1 b h3 w
      · rw [if_neg (fun h => h2 h.1)]
        exact refPrint12_n1 x h1 h3 h2 w
    · rw [if_neg (fun h => h3 h.2)]
      exact refPrint12_s1 x h1 h3 w
  by_cases h1b : x.k = 2
  · rw [if_pos (Or.inr h1b)]
    by_cases h3 : x.b.size = 48
    · by_cases h2 : x.n = 0
      · rw [if_pos ⟨h2, h3⟩]
        obtain ⟨k, n, b⟩ := x
        simp only at h1b h2
        subst h1b
        subst h2
        exact refPrint12_g2 b h3 w
      · rw [if_neg (fun h => h2 h.1)]
        exact refPrint12_n2 x h1b h3 h2 w
    · rw [if_neg (fun h => h3 h.2)]
      exact refPrint12_s2 x h1b h3 w
  rw [if_neg (fun h => h.elim h1 h1b)]
  by_cases h3 : x.k = 3
  · rw [if_pos h3]
    by_cases h4 : 16 ≤ x.b.size
    · rw [if_pos h4]
      obtain ⟨k, n, b⟩ := x
      simp only at h3
      subst h3
      exact refPrint12_s n b hn h4 hs w
    · rw [if_neg h4]
      exact refPrint12_few x h3 (by omega) w
  · rw [if_neg h3]
    exact refPrint12_none x h1 h1b h3 w
set_option maxRecDepth 20000 in
set_option maxHeartbeats 1000000 in
theorem refParse12_none (s : ByteArray) (h : s.size < 1) (w : World) : Calls Try.prog 19 #[.string s] w fun e w' => e = .returned (.tuple #[.agg gz.c, .int .i64 2]) ∧ Below w.heap.size w w' := by
  have M : Mem w [(w.heap.size, 24, gz.c)] (w.alloc (.cells gz.c 24)) := (Mem.init w).alloc _ rfl _ _
  have h1 : ((s.size : Int) == 0) = true := by rw [beq_iff_eq]; omega
  go_enter Try.func19, Try.ntmps19
  go_wp2
  exact bodyPost_ret (v := .tuple #[.agg gz.c, .int .i64 2]) (results_row1 rfl _ _ w.heap.size 24 gz.c (0, 0) _ rfl (M.row 0 rfl) Try.underlying24 rfl r12_info _ rfl) rfl ⟨rfl, M.below⟩
set_option maxRecDepth 20000 in
set_option maxHeartbeats 1000000 in
theorem refParse12_other (s : ByteArray) (h : 1 ≤ s.size) (h1 : bAt s 0 ≠ 1) (h2 : bAt s 0 ≠ 2) (h3 : bAt s 0 ≠ 3) (w : World) : Calls Try.prog 19 #[.string s] w fun e w' => e = .returned (.tuple #[.agg gz.c, .int .i64 3]) ∧ Below w.heap.size w w' := by
  have M : Mem w [(w.heap.size, 24, gz.c)] (w.alloc (.cells gz.c 24)) := (Mem.init w).alloc _ rfl _ _
  have t0 : ((s.size : Int) == 0) = false := by rw [beq_eq_false_iff_ne]; omega
  have t1 : (0 : Int) < (s.size : Int) := by omega
  have hlt := UInt8.toNat_lt (bAt s 0)
  have q : ∀ c : UInt8, bAt s 0 ≠ c → (bAt s 0).toNat ≠ c.toNat := fun c hc e => hc (UInt8.toNat_inj.1 e)
  have q1 : (bAt s 0).toNat ≠ 1 := q 1 h1
  have q2 : (bAt s 0).toNat ≠ 2 := q 2 h2
  have q3 : (bAt s 0).toNat ≠ 3 := q 3 h3
  have HI := Lib.hid (fun (o : Oper) (ev : Operand → Value) (W : World) (p r : Operand) => exec_index (o := o) (ev := ev) (w := W) p r s 0 (by omega))
  clear q h1 h2 h3
  generalize (bAt s 0).toNat = N at *
  have hw : IntKind.i64.wrap (N : Int) = (N : Int) := IntWalk.i64_in _ (by omega)
  by_cases hN : N < 1
  · have hN1 : (N : Int) < 1 := by omega
    go_enter Try.func19, Try.ntmps19
    go_wp2_with (first
      | (refine wpExec rfl (.int .u8 (N : Int)) (HI.out _ _ _ _ _ rfl rfl rfl) ?_))
    exact bodyPost_ret (v := .tuple #[.agg gz.c, .int .i64 3]) (results_row1 rfl _ _ w.heap.size 24 gz.c (0, 0) _ rfl (M.row 0 rfl) Try.underlying24 rfl r12_info _ rfl) rfl ⟨rfl, M.below⟩
  · have hN1 : ¬ (N : Int) < 1 := by omega
    have hN2 : (3 : Int) < (N : Int) := by omega
    go_enter Try.func19, Try.ntmps19
    go_wp2_with (first
      | (refine wpExec rfl (.int .u8 (N : Int)) (HI.out _ _ _ _ _ rfl rfl rfl) ?_))
    exact bodyPost_ret (v := .tuple #[.agg gz.c, .int .i64 3]) (results_row1 rfl _ _ w.heap.size 24 gz.c (0, 0) _ rfl (M.row 0 rfl) Try.underlying24 rfl r12_info _ rfl) rfl ⟨rfl, M.below⟩
set_option maxRecDepth 20000 in
set_option maxHeartbeats 1000000 in
theorem refParse12_short1 (s : ByteArray) (h : 1 ≤ s.size) (h1 : bAt s 0 = 1) (hs : s.size < 49) (w : World) : Calls Try.prog 19 #[.string s] w fun e w' => e = .returned (.tuple #[.agg gz.c, .int .i64 2]) ∧ Below w.heap.size w w' := by
  have M : Mem w [(w.heap.size, 24, gz.c)] (w.alloc (.cells gz.c 24)) := (Mem.init w).alloc _ rfl _ _
  have t0 : ((s.size : Int) == 0) = false := by rw [beq_eq_false_iff_ne]; omega
  have t1 : (0 : Int) < (s.size : Int) := by omega
  have t2 : (s.size : Int) < 49 := by omega
  have HI := Lib.hid (fun (o : Oper) (ev : Operand → Value) (W : World) (p r : Operand) => exec_index (o := o) (ev := ev) (w := W) p r s 0 (by omega))
  rw [h1] at HI
  clear h1 hs
  go_enter Try.func19, Try.ntmps19
  go_wp2_with (first
    | (refine wpExec rfl (.int .u8 1) (HI.out _ _ _ _ _ rfl rfl rfl) ?_))
  exact bodyPost_ret (v := .tuple #[.agg gz.c, .int .i64 2]) (results_row1 rfl _ _ w.heap.size 24 gz.c (0, 0) _ rfl (M.row 0 rfl) Try.underlying24 rfl r12_info _ rfl) rfl ⟨rfl, M.below⟩
set_option maxRecDepth 20000 in
set_option maxHeartbeats 1000000 in
theorem refParse12_long1 (s : ByteArray) (h1 : bAt s 0 = 1) (hs : 49 < s.size) (w : World) : Calls Try.prog 19 #[.string s] w fun e w' => e = .returned (.tuple #[.agg gz.c, .int .i64 3]) ∧ Below w.heap.size w w' := by
  have M : Mem w [(w.heap.size, 24, gz.c)] (w.alloc (.cells gz.c 24)) := (Mem.init w).alloc _ rfl _ _
  have t0 : ((s.size : Int) == 0) = false := by rw [beq_eq_false_iff_ne]; omega
  have t1 : (0 : Int) < (s.size : Int) := by omega
  have t2 : ¬ (s.size : Int) < 49 := by omega
  have t3 : (49 : Int) < (s.size : Int) := by omega
  have HI := Lib.hid (fun (o : Oper) (ev : Operand → Value) (W : World) (p r : Operand) => exec_index (o := o) (ev := ev) (w := W) p r s 0 (by omega))
  rw [h1] at HI
  clear h1 hs
  go_enter Try.func19, Try.ntmps19
  go_wp2_with (first
    | (refine wpExec rfl (.int .u8 1) (HI.out _ _ _ _ _ rfl rfl rfl) ?_))
  exact bodyPost_ret (v := .tuple #[.agg gz.c, .int .i64 3]) (results_row1 rfl _ _ w.heap.size 24 gz.c (0, 0) _ rfl (M.row 0 rfl) Try.underlying24 rfl r12_info _ rfl) rfl ⟨rfl, M.below⟩
set_option maxRecDepth 20000 in
set_option maxHeartbeats 1000000 in
theorem refParse12_good1 (s : ByteArray) (h1 : bAt s 0 = 1) (hs : s.size = 49) (w : World) : Calls Try.prog 19 #[.string s] w fun e w' => e = .returned (.tuple #[.agg (G12.mk 1 0 (s.extract 1 s.size)).c, .int .i64 0]) ∧ Below w.heap.size w w' := by
  have M : Mem w [(w.heap.size, 24, gz.c)] (w.alloc (.cells gz.c 24)) := (Mem.init w).alloc _ rfl _ _
  have t0 : ((s.size : Int) == 0) = false := by rw [beq_eq_false_iff_ne]; omega
  have t1 : (0 : Int) < (s.size : Int) := by omega
  have t2 : ¬ (s.size : Int) < 49 := by omega
  have t3 : ¬ (49 : Int) < (s.size : Int) := by omega
  have t4 : (1 : Int) ≤ (s.size : Int) := by omega
  have HI := Lib.hid (fun (o : Oper) (ev : Operand → Value) (W : World) (p r : Operand) => exec_index (o := o) (ev := ev) (w := W) p r s 0 (by omega))
  rw [h1] at HI
  clear h1 hs
  have HM := Lib.hid ((Mem.init w).alloc _ rfl 24 (G12.mk 1 0 (s.extract 1 s.size)).c)
  clear M
  go_enter Try.func19, Try.ntmps19
  go_wp2_with (first
    | (refine wpExec rfl (.int .u8 1) (HI.out _ _ _ _ _ rfl rfl rfl) ?_))
  exact bodyPost_ret (v := .tuple #[.agg (G12.mk 1 0 (s.extract 1 s.size)).c, .int .i64 0]) (results_row1 rfl _ _ w.heap.size 24 (G12.mk 1 0 (s.extract 1 s.size)).c (0, 0) _ rfl (HM.out.row 0 rfl) Try.underlying24 rfl r12_info _ rfl) rfl ⟨rfl, HM.out.below⟩
set_option maxRecDepth 20000 in
set_option maxHeartbeats 1000000 in
theorem refParse12_short2 (s : ByteArray) (h : 1 ≤ s.size) (h1 : bAt s 0 = 2) (hs : s.size < 49) (w : World) : Calls Try.prog 19 #[.string s] w fun e w' => e = .returned (.tuple #[.agg gz.c, .int .i64 2]) ∧ Below w.heap.size w w' := by
  have M : Mem w [(w.heap.size, 24, gz.c)] (w.alloc (.cells gz.c 24)) := (Mem.init w).alloc _ rfl _ _
  have t0 : ((s.size : Int) == 0) = false := by rw [beq_eq_false_iff_ne]; omega
  have t1 : (0 : Int) < (s.size : Int) := by omega
  have t2 : (s.size : Int) < 49 := by omega
  have HI := Lib.hid (fun (o : Oper) (ev : Operand → Value) (W : World) (p r : Operand) => exec_index (o := o) (ev := ev) (w := W) p r s 0 (by omega))
  rw [h1] at HI
  clear h1 hs
  go_enter Try.func19, Try.ntmps19
  go_wp2_with (first
    | (refine wpExec rfl (.int .u8 2) (HI.out _ _ _ _ _ rfl rfl rfl) ?_))
  exact bodyPost_ret (v := .tuple #[.agg gz.c, .int .i64 2]) (results_row1 rfl _ _ w.heap.size 24 gz.c (0, 0) _ rfl (M.row 0 rfl) Try.underlying24 rfl r12_info _ rfl) rfl ⟨rfl, M.below⟩
set_option maxRecDepth 20000 in
set_option maxHeartbeats 1000000 in
theorem refParse12_long2 (s : ByteArray) (h1 : bAt s 0 = 2) (hs : 49 < s.size) (w : World) : Calls Try.prog 19 #[.string s] w fun e w' => e = .returned (.tuple #[.agg gz.c, .int .i64 3]) ∧ Below w.heap.size w w' := by
  have M : Mem w [(w.heap.size, 24, gz.c)] (w.alloc (.cells gz.c 24)) := (Mem.init w).alloc _ rfl _ _
  have t0 : ((s.size : Int) == 0) = false := by rw [beq_eq_false_iff_ne]; omega
  have t1 : (0 : Int) < (s.size : Int) := by omega
  have t2 : ¬ (s.size : Int) < 49 := by omega
  have t3 : (49 : Int) < (s.size : Int) := by omega
  have HI := Lib.hid (fun (o : Oper) (ev : Operand → Value) (W : World) (p r : Operand) => exec_index (o := o) (ev := ev) (w := W) p r s 0 (by omega))
  rw [h1] at HI
  clear h1 hs
  go_enter Try.func19, Try.ntmps19
  go_wp2_with (first
    | (refine wpExec rfl (.int .u8 2) (HI.out _ _ _ _ _ rfl rfl rfl) ?_))
  exact bodyPost_ret (v := .tuple #[.agg gz.c, .int .i64 3]) (results_row1 rfl _ _ w.heap.size 24 gz.c (0, 0) _ rfl (M.row 0 rfl) Try.underlying24 rfl r12_info _ rfl) rfl ⟨rfl, M.below⟩
set_option maxRecDepth 20000 in
set_option maxHeartbeats 1000000 in
theorem refParse12_good2 (s : ByteArray) (h1 : bAt s 0 = 2) (hs : s.size = 49) (w : World) : Calls Try.prog 19 #[.string s] w fun e w' => e = .returned (.tuple #[.agg (G12.mk 2 0 (s.extract 1 s.size)).c, .int .i64 0]) ∧ Below w.heap.size w w' := by
  have M : Mem w [(w.heap.size, 24, gz.c)] (w.alloc (.cells gz.c 24)) := (Mem.init w).alloc _ rfl _ _
  have t0 : ((s.size : Int) == 0) = false := by rw [beq_eq_false_iff_ne]; omega
  have t1 : (0 : Int) < (s.size : Int) := by omega
  have t2 : ¬ (s.size : Int) < 49 := by omega
  have t3 : ¬ (49 : Int) < (s.size : Int) := by omega
  have t4 : (1 : Int) ≤ (s.size : Int) := by omega
  have HI := Lib.hid (fun (o : Oper) (ev : Operand → Value) (W : World) (p r : Operand) => exec_index (o := o) (ev := ev) (w := W) p r s 0 (by omega))
  rw [h1] at HI
  clear h1 hs
  have HM := Lib.hid ((Mem.init w).alloc _ rfl 24 (G12.mk 2 0 (s.extract 1 s.size)).c)
  clear M
  go_enter Try.func19, Try.ntmps19
  go_wp2_with (first
    | (refine wpExec rfl (.int .u8 2) (HI.out _ _ _ _ _ rfl rfl rfl) ?_))
  exact bodyPost_ret (v := .tuple #[.agg (G12.mk 2 0 (s.extract 1 s.size)).c, .int .i64 0]) (results_row1 rfl _ _ w.heap.size 24 (G12.mk 2 0 (s.extract 1 s.size)).c (0, 0) _ rfl (HM.out.row 0 rfl) Try.underlying24 rfl r12_info _ rfl) rfl ⟨rfl, HM.out.below⟩
set_option maxRecDepth 20000 in
set_option maxHeartbeats 1000000 in
theorem refParse12_short3 (s : ByteArray) (h : 1 ≤ s.size) (h1 : bAt s 0 = 3) (hs : s.size < 25) (w : World) : Calls Try.prog 19 #[.string s] w fun e w' => e = .returned (.tuple #[.agg gz.c, .int .i64 2]) ∧ Below w.heap.size w w' := by
  have M : Mem w [(w.heap.size, 24, gz.c)] (w.alloc (.cells gz.c 24)) := (Mem.init w).alloc _ rfl _ _
  have t0 : ((s.size : Int) == 0) = false := by rw [beq_eq_false_iff_ne]; omega
  have t1 : (0 : Int) < (s.size : Int) := by omega
  have t2 : (s.size : Int) < 25 := by omega
  have HI := Lib.hid (fun (o : Oper) (ev : Operand → Value) (W : World) (p r : Operand) => exec_index (o := o) (ev := ev) (w := W) p r s 0 (by omega))
  rw [h1] at HI
  clear h1
  go_enter Try.func19, Try.ntmps19
  go_wp2_with (first
    | (refine wpExec rfl (.int .u8 3) (HI.out _ _ _ _ _ rfl rfl rfl) ?_))
  exact bodyPost_ret (v := .tuple #[.agg gz.c, .int .i64 2]) (results_row1 rfl _ _ w.heap.size 24 gz.c (0, 0) _ rfl (M.row 0 rfl) Try.underlying24 rfl r12_info _ rfl) rfl ⟨rfl, M.below⟩
set_option maxRecDepth 20000 in
set_option maxHeartbeats 1000000 in
theorem refParse12_good3 (s : ByteArray) (h1 : bAt s 0 = 3) (hs : 25 ≤ s.size) (hs2 : s.size ≤ 1000000) (w : World) : Calls Try.prog 19 #[.string s] w fun e w' => e = .returned (.tuple #[.agg (G12.mk 3 (numP (s.data.toList.drop 1) 8) (s.extract 9 s.size)).c, .int .i64 0]) ∧ Below w.heap.size w w' := by
  have M : Mem w [(w.heap.size, 24, gz.c)] (w.alloc (.cells gz.c 24)) := (Mem.init w).alloc _ rfl _ _
  have t0 : ((s.size : Int) == 0) = false := by rw [beq_eq_false_iff_ne]; omega
  have t1 : (0 : Int) < (s.size : Int) := by omega
  have t2 : ¬ (s.size : Int) < 25 := by omega
  have t4 : (9 : Int) ≤ (s.size : Int) := by omega
  have HI := Lib.hid (fun (o : Oper) (ev : Operand → Value) (W : World) (p r : Operand) => exec_index (o := o) (ev := ev) (w := W) p r s 0 (by omega))
  rw [h1] at HI
  clear h1
  have hlt := numP_lt (s.data.toList.drop 1)
  have hst : ∀ k, numP (s.data.toList.drop 1) (k + 1) = numP (s.data.toList.drop 1) k * 256 + (bAt s (k + 1)).toNat := fun k => by
    show _ * 256 + ((s.data.toList.drop 1).getD k 0).toNat = _
    unfold bAt
    rw [List.getD_eq_getElem?_getD, List.getD_eq_getElem?_getD, List.getElem?_drop, Nat.add_comm 1 k]
  have hz : numP (s.data.toList.drop 1) 0 = 0 := rfl
  generalize numP (s.data.toList.drop 1) = P at *
  have HL := Lib.hid hlt
  have HS := Lib.hid hst
  have HZ := Lib.hid hz
  clear hlt hst hz
  go_enter Try.func19, Try.ntmps19
  go_upto_region 10 with (first
    | (refine wpExec rfl (.int .u8 3) (HI.out _ _ _ _ _ rfl rfl rfl) ?_)
    | fail)
  change Code.wp _ _ _ _ (w.alloc (.cells gz.c 24))
  generalize w.alloc (.cells gz.c 24) = W0 at M ⊢
  have MM := Lib.hid M
  clear M HI
  go_wp2
  go_loop [5, 6] (fun c i => ∃ j : Nat, 1 ≤ j ∧ j ≤ 9 ∧ c = .int .u64 (P (j - 1) : Int) ∧ i = .int .i64 (j : Int)) (fun _ i => 9 - (intOf i).toNat)
  case atStart => exact ⟨1, by omega, by omega, by rw [HZ.out]; rfl, rfl⟩
  case round =>
    obtain ⟨j, hj0, hj, rfl, rfl⟩ := hrel
    have hP := HL.out (j - 1)
    have hs3 := HS.out (j - 1)
    rw [show j - 1 + 1 = j from by omega] at hs3
    obtain ⟨p, hp⟩ : ∃ p, P (j - 1) = p := ⟨_, rfl⟩
    rw [hp] at hP hs3 ⊢
    by_cases hlt : j < 9
    · have hp5 : 256 ^ (j - 1) ≤ 256 ^ 7 := Nat.pow_le_pow_right (by omega) (by omega)
      have hb := UInt8.toNat_lt (bAt s j)
      have hI := fun (o : Oper) (ev : Operand → Value) (W : World) (p r : Operand) => exec_index (o := o) (ev := ev) (w := W) p r s j (by omega)
      obtain ⟨c, hc⟩ : ∃ c, (bAt s j).toNat = c := ⟨_, rfl⟩
      rw [hc] at hs3 hb hI
      generalize 256 ^ (j - 1) = q at hP hp5
      have hq : q ≤ 72057594037927936 := hp5
      have hpl : p < 72057594037927936 := by omega
      have t5 : decide ((j : Int) < 9) = true := by simp; omega
      have e1 : IntKind.u64.wrap (256 * (p : Int)) = ((p * 256 : Nat) : Int) := by show (256 * (p : Int)) % 18446744073709551616 = _; omega
      have w1 : IntKind.u64.wrap (c : Int) = (c : Int) := by show (c : Int) % 18446744073709551616 = _; omega
      have w2 : IntKind.u64.wrap (((p * 256 : Nat) : Int) + (c : Int)) = ((p * 256 + c : Nat) : Int) := by show (((p * 256 : Nat) : Int) + (c : Int)) % 18446744073709551616 = _; omega
      generalize p * 256 + c = r at w2 hs3
      generalize p * 256 = m at e1 w2
      have HI2 := Lib.hid hI
      have H3 := Lib.hid hs3
      clear hp5 hs3 hP hI hc hp hq hpl
      go_wp2_with (first
        | (refine wpExec rfl (.int .u8 (c : Int)) (HI2.out _ _ _ _ _ rfl rfl rfl) ?_))
      refine ⟨⟨j + 1, by omega, by omega, ?_, by go_num⟩, by simp [intOf]; omega⟩
      rw [show j + 1 - 1 = j from rfl, H3.out]
    · have hk2 : j = 9 := by omega
      subst hk2
      have hp8 : P 8 = p := hp
      clear hP hs3 hlt hp
      have M := MM.out
      have HMM := Lib.hid (M.store 0 rfl (G12.mk 3 p (s.extract 9 s.size)).c)
      have r0 := M.row 0 rfl
      clear MM M
      generalize hX : s.extract 9 s.size = X at HMM ⊢
      go_wp2_with (first
        | (refine wpList_store_row rfl 24 (.tmp 2) (.tmp 41) rfl w.heap.size (G12.mk 3 p X).c rfl rfl 24 gz.c r0 r12_info rfl (G12.one _) ?_))
      exact bodyPost_ret (v := .tuple #[.agg (G12.mk 3 p X).c, .int .i64 0]) (results_row1 rfl _ _ w.heap.size 24 (G12.mk 3 p X).c (0, 0) _ rfl (HMM.out.row 0 rfl) Try.underlying24 rfl r12_info _ rfl) rfl ⟨rfl, HMM.out.below⟩
/-- the document's Parse, whatever the text -/
theorem refParse12_any (s : ByteArray) (hs : s.size ≤ 1000000) (w : World) : Calls Try.prog 19 #[.string s] w fun e w' => e = .returned (.tuple #[.agg (parse12 s).2.c, .int .i64 (parse12 s).1]) ∧ Below w.heap.size w w' := by
  unfold parse12
  by_cases h : s.size < 1
  · rw [if_pos h]
    exact refParse12_none s h w
  rw [if_neg h]
  by_cases h1 : bAt s 0 = 1
  · rw [if_pos (Or.inl h1), h1]
    by_cases h2 : s.size < 49
    · rw [if_pos h2]
      exact refParse12_short1 s (by omega) h1 h2 w
    · rw [if_neg h2]
      by_cases h3 : s.size = 49
      · rw [if_pos h3]
        exact refParse12_good1 s h1 h3 w
      · rw [if_neg h3]
        exact refParse12_long1 s h1 (by omega) w
  by_cases h1b : bAt s 0 = 2
  · rw [if_pos (Or.inr h1b), h1b]
    by_cases h2 : s.size < 49
    · rw [if_pos h2]
      exact refParse12_short2 s (by omega) h1b h2 w
    · rw [if_neg h2]
      by_cases h3 : s.size = 49
      · rw [if_pos h3]
        exact refParse12_good2 s h1b h3 w
      · rw [if_neg h3]
        exact refParse12_long2 s h1b (by omega) w
  rw [if_neg (fun h => h.elim h1 h1b)]
  by_cases h3 : bAt s 0 = 3
  · rw [if_pos h3]
    by_cases h2 : s.size < 25
    · rw [if_pos h2]
      exact refParse12_short3 s (by omega) h3 h2 w
    · rw [if_neg h2]
      exact refParse12_good3 s h3 (by omega) hs w
  · rw [if_neg h3]
    exact refParse12_other s (by omega) h1 h1b h3 w
end Go.Proofs.Ythpbhimmfmablaa
