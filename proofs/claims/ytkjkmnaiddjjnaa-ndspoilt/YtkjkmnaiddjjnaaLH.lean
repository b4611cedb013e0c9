/- nd.parsed: walked. -/
import Derived.Test.YtkjkmnaiddjjnaaLF
import Derived.Test.YtkjkmnaiddjjnaaLD
namespace Go.Proofs.Ytkjkmnaiddjjnaa
open Go.RowKit
theorem wd_head (s : ByteArray) : wd (s.extract 0 40) 4 = wd s 4 := by
  unfold wd
  rw [bAt_extract s 0 40 4 (by omega), bAt_extract s 0 40 (4 + 1) (by omega)]
set_option maxRecDepth 20000 in
set_option maxHeartbeats 2000000 in
theorem parsed10_short (s : ByteArray) (h : s.size < 64) (w : World) : Calls Try.prog 22 #[.string s] w fun e w' => Below w.heap.size w w' ∧ e = thrown 2 := by
  have M : Mem w [(w.heap.size, 32, nz.c)] (w.alloc (.cells nz.c 32)) := (Mem.init w).alloc _ rfl _ _
  have t64 : decide ((64 : Int) ≤ (s.size : Int)) = false := by simp; omega
  go_enter Try.func22, Try.ntmps22
  go_upto_region 1 with fail
  change Code.wp _ _ _ _ (w.alloc (.cells nz.c 32))
  generalize w.alloc (.cells nz.c 32) = W0 at M ⊢
  go_wp2_with (go_at_call 29; refine (demand10_any _ _ _).mono ?_; rintro e w1 ⟨he, rfl⟩; first | (replace he := he.trans demanded_yes; subst he) | (replace he := he.trans demanded_no; subst he))
  exact ⟨rfl, M.below, rfl⟩
set_option maxRecDepth 20000 in
set_option maxHeartbeats 2000000 in
theorem parsed10_head (s : ByteArray) (h : 64 ≤ s.size) (hh : (headOk (s.extract 0 40) && sizeOk (wd s 4)) = false) (w : World) : Calls Try.prog 22 #[.string s] w fun e w' => Below w.heap.size w w' ∧ e = thrown 3 := by
  have M : Mem w [(w.heap.size, 32, nz.c)] (w.alloc (.cells nz.c 32)) := (Mem.init w).alloc _ rfl _ _
  have t64 : (64 : Int) ≤ (s.size : Int) := by omega
  have t40 : (40 : Int) ≤ (s.size : Int) := by omega
  have q1 := fun W => readHead_any (s.extract 0 40) (by rw [ByteArray.size_extract]; omega) W
  rw [wd_head, hh] at q1
  simp only [Bool.false_eq_true, if_false] at q1
  have Q1 := Lib.hid q1
  clear q1 hh h
  go_enter Try.func22, Try.ntmps22
  go_upto_region 1 with fail
  change Code.wp _ _ _ _ (w.alloc (.cells nz.c 32))
  generalize w.alloc (.cells nz.c 32) = W0 at M ⊢
  go_wp2_with (first
    | (go_at_call 29; refine (demand10_any _ _ _).mono ?_; rintro e w1 ⟨he, rfl⟩; first | (replace he := he.trans demanded_yes; subst he) | (replace he := he.trans demanded_no; subst he))
    | (go_at_call 30; refine (Q1.out _).mono ?_; rintro e w1 ⟨hb1, rfl⟩))
  exact ⟨rfl, (M.step hb1).below, rfl⟩
set_option maxRecDepth 20000 in
set_option maxHeartbeats 2000000 in
theorem parsed10_cut (s : ByteArray) (h : 64 ≤ s.size) (hh : (headOk (s.extract 0 40) && sizeOk (wd s 4)) = true) (hn : s.size < 40 + wd s 4) (w : World) : Calls Try.prog 22 #[.string s] w fun e w' => Below w.heap.size w w' ∧ e = thrown 2 := by
  have M : Mem w [(w.heap.size, 32, nz.c)] (w.alloc (.cells nz.c 32)) := (Mem.init w).alloc _ rfl _ _
  have t64 : (64 : Int) ≤ (s.size : Int) := by omega
  have t40 : (40 : Int) ≤ (s.size : Int) := by omega
  have q1 := fun W => readHead_any (s.extract 0 40) (by rw [ByteArray.size_extract]; omega) W
  rw [wd_head, hh] at q1
  simp only [if_true] at q1
  have hsz : wd s 4 = 24 ∨ wd s 4 = 32 := sizeOk_spec (by simp only [Bool.and_eq_true] at hh; exact hh.2)
  generalize wd s 4 = n at *
  obtain ⟨q, hq⟩ : ∃ q, 40 + n = q := ⟨_, rfl⟩
  have hw : IntKind.i64.wrap (40 + (n : Int)) = (q : Int) := by rw [IntWalk.i64_in _ (by omega)]; omega
  have Q1 := Lib.hid q1
  clear q1 hh
  have tq : ¬ q ≤ s.size := by omega
  clear hn hsz hq h
  go_enter Try.func22, Try.ntmps22
  go_upto_region 1 with fail
  change Code.wp _ _ _ _ (w.alloc (.cells nz.c 32))
  generalize w.alloc (.cells nz.c 32) = W0 at M ⊢
  go_wp2_with (first
    | (go_at_call 29; refine (demand10_any _ _ _).mono ?_; rintro e w1 ⟨he, rfl⟩; first | (replace he := he.trans demanded_yes; subst he) | (replace he := he.trans demanded_no; subst he))
    | (go_at_call 30; refine (Q1.out _).mono ?_; rintro e w1 ⟨hb1, rfl⟩))
  exact ⟨rfl, (M.step hb1).below, rfl⟩
set_option maxRecDepth 20000 in
set_option maxHeartbeats 2000000 in
theorem parsed10_msg (s : ByteArray) (h : 64 ≤ s.size) (hh : (headOk (s.extract 0 40) && sizeOk (wd s 4)) = true) (hn : 40 + wd s 4 ≤ s.size) (hm : msgOk (s.extract 40 (40 + wd s 4)) = false) (w : World) : Calls Try.prog 22 #[.string s] w fun e w' => Below w.heap.size w w' ∧ e = thrown 3 := by
  have M : Mem w [(w.heap.size, 32, nz.c)] (w.alloc (.cells nz.c 32)) := (Mem.init w).alloc _ rfl _ _
  have t64 : (64 : Int) ≤ (s.size : Int) := by omega
  have t40 : (40 : Int) ≤ (s.size : Int) := by omega
  have q1 := fun W => readHead_any (s.extract 0 40) (by rw [ByteArray.size_extract]; omega) W
  rw [wd_head, hh] at q1
  simp only [if_true] at q1
  have hsz : wd s 4 = 24 ∨ wd s 4 = 32 := sizeOk_spec (by simp only [Bool.and_eq_true] at hh; exact hh.2)
  obtain ⟨m, hm0⟩ : ∃ m, s.extract 40 (40 + wd s 4) = m := ⟨_, rfl⟩
  have hml : m.size = 24 ∨ m.size = 32 := by rw [← hm0, ByteArray.size_extract]; omega
  rw [hm0] at hm
  have q2 := fun W => readMessage_any m hml W
  rw [hm] at q2
  simp only [Bool.false_eq_true, if_false] at q2
  generalize wd s 4 = n at *
  obtain ⟨q, hq⟩ : ∃ q, 40 + n = q := ⟨_, rfl⟩
  have hw : IntKind.i64.wrap (40 + (n : Int)) = (q : Int) := by rw [IntWalk.i64_in _ (by omega)]; omega
  have Q1 := Lib.hid q1
  clear q1 hh
  have tq : (q : Int) ≤ (s.size : Int) := by omega
  have t4q : (40 : Int) ≤ (q : Int) := by omega
  rw [hq] at hm0
  rw [← hm0] at q2
  have Q2 := Lib.hid q2
  clear q2 hn hsz hq h hm hml hm0
  go_enter Try.func22, Try.ntmps22
  go_upto_region 1 with fail
  change Code.wp _ _ _ _ (w.alloc (.cells nz.c 32))
  generalize w.alloc (.cells nz.c 32) = W0 at M ⊢
  go_wp2_with (first
    | (go_at_call 29; refine (demand10_any _ _ _).mono ?_; rintro e w1 ⟨he, rfl⟩; first | (replace he := he.trans demanded_yes; subst he) | (replace he := he.trans demanded_no; subst he))
    | (go_at_call 30; refine (Q1.out _).mono ?_; rintro e w1 ⟨hb1, rfl⟩)
    | (go_at_call 31; refine (Q2.out _).mono ?_; rintro e w2 ⟨hb2, rfl⟩))
  exact ⟨rfl, ((M.step hb1).step hb2).below, rfl⟩
set_option maxRecDepth 20000 in
set_option maxHeartbeats 2000000 in
theorem parsed10_sum (s : ByteArray) (h : 64 ≤ s.size) (hh : (headOk (s.extract 0 40) && sizeOk (wd s 4)) = true) (hn : 40 + wd s 4 ≤ s.size) (hm : msgOk (s.extract 40 (40 + wd s 4)) = true) (hs : sumOk s (s.extract 40 (40 + wd s 4)) = false) (w : World) : Calls Try.prog 22 #[.string s] w fun e w' => Below w.heap.size w w' ∧ e = thrown 4 := by
  have M : Mem w [(w.heap.size, 32, nz.c)] (w.alloc (.cells nz.c 32)) := (Mem.init w).alloc _ rfl _ _
  have t64 : (64 : Int) ≤ (s.size : Int) := by omega
  have t40 : (40 : Int) ≤ (s.size : Int) := by omega
  have q1 := fun W => readHead_any (s.extract 0 40) (by rw [ByteArray.size_extract]; omega) W
  rw [wd_head, hh] at q1
  simp only [if_true] at q1
  have hsz : wd s 4 = 24 ∨ wd s 4 = 32 := sizeOk_spec (by simp only [Bool.and_eq_true] at hh; exact hh.2)
  obtain ⟨m, hm0⟩ : ∃ m, s.extract 40 (40 + wd s 4) = m := ⟨_, rfl⟩
  have hml : m.size = 24 ∨ m.size = 32 := by rw [← hm0, ByteArray.size_extract]; omega
  rw [hm0] at hm hs
  have q2 := fun W => readMessage_any m hml W
  rw [hm] at q2
  simp only [if_true] at q2
  generalize wd s 4 = n at *
  obtain ⟨q, hq⟩ : ∃ q, 40 + n = q := ⟨_, rfl⟩
  have hw : IntKind.i64.wrap (40 + (n : Int)) = (q : Int) := by rw [IntWalk.i64_in _ (by omega)]; omega
  have Q1 := Lib.hid q1
  clear q1 hh
  have tq : (q : Int) ≤ (s.size : Int) := by omega
  have t4q : (40 : Int) ≤ (q : Int) := by omega
  rw [hq] at hm0
  have hfit := msgOf_fit m hml
  have hsay : saysOf s m = N10.mk (msgOf m).op (cut9 s 8 16) (cut9 s 24 16) (msgOf m).a (msgOf m).m (msgOf m).h (msgOf m).g := rfl
  have hmk : msgOf m = N10.mk (msgOf m).op o16 o16 (msgOf m).a (msgOf m).m (msgOf m).h (msgOf m).g := rfl
  have hsf := saysOf_fit s m h hml
  rw [hsay] at hsf
  generalize (msgOf m).op = K at *
  generalize (msgOf m).a = a0 at *
  generalize (msgOf m).m = m0 at *
  generalize (msgOf m).h = b0 at *
  generalize (msgOf m).g = g0 at *
  rw [hmk] at q2 hfit
  have x1 : (N10.mk K (cut9 s 8 16) o16 a0 m0 b0 g0).Fit := ⟨cut9_length s 8 16 (by omega), rfl, hfit.a, hfit.m, hfit.g⟩
  have q3 := fun W => sum_any _ hsf (m.extract 0 2).data.toList (m.extract 4 m.size).data.toList (by rw [len_list, ByteArray.size_extract]; omega) (by rw [len_list, ByteArray.size_extract]; omega) W
  rw [str_of, str_of] at q3
  have he : ((m.extract 2 4).data.toList == (⟨(sumB (cut9 s 8 16) (cut9 s 24 16) (m.extract 0 2).data.toList (m.extract 4 m.size).data.toList).toArray⟩ : ByteArray).data.toList) = false := by
    rw [ext_cut2, ext_cut2, rest_at, str_list]
    exact hs
  replace q3 : ∀ W, Calls Try.prog 18 #[.agg (N10.mk K (cut9 s 8 16) (cut9 s 24 16) a0 m0 b0 g0).c, .string (m.extract 0 2), .string (m.extract 4 m.size)] W fun e w' => e = .returned (.string ⟨(sumB (cut9 s 8 16) (cut9 s 24 16) (m.extract 0 2).data.toList (m.extract 4 m.size).data.toList).toArray⟩) ∧ Below W.heap.size W w' := q3
  generalize (⟨(sumB (cut9 s 8 16) (cut9 s 24 16) (m.extract 0 2).data.toList (m.extract 4 m.size).data.toList).toArray⟩ : ByteArray) = R at q3 he
  have hm4 : (4 : Int) ≤ (m.size : Int) := by omega
  have hm2 : (2 : Int) ≤ (m.size : Int) := by omega
  have Q2 := Lib.hid q2
  have Q3 := Lib.hid q3
  have HE := Lib.hid he
  have HM0 := Lib.hid hm0
  clear q2 q3 he hn hsz hq hm hs hml hm0 hsay hmk
  go_enter Try.func22, Try.ntmps22
  go_upto_region 1 with fail
  change Code.wp _ _ _ _ (w.alloc (.cells nz.c 32))
  generalize w.alloc (.cells nz.c 32) = W0 at M ⊢
  go_wp2_with (first
    | (go_at_call 29; refine (demand10_any _ _ _).mono ?_; rintro e w1 ⟨he, rfl⟩; first | (replace he := he.trans demanded_yes; subst he) | (replace he := he.trans demanded_no; subst he))
    | (go_at_call 30; refine (Q1.out _).mono ?_; rintro e w1 ⟨hb1, rfl⟩))
  replace M := M.step hb1
  clear hb1
  rw [HM0.out]
  refine (Q2.out _).mono ?_
  rintro e w2 ⟨hb2, rfl⟩
  replace M := M.step hb2
  clear hb2
  replace M := M.alloc _ rfl 32 nz.c
  simp only [List.cons_append, List.nil_append] at M
  have r1 := M.row 1 rfl
  replace M := M.store 1 rfl (N10.mk K o16 o16 a0 m0 b0 g0).c
  simp only [List.set_cons_zero, List.set_cons_succ] at M
  have HM := Lib.hid M
  clear M
  go_upto_region 6 with (first
    | (refine wpList_store_row rfl 32 (.tmp 5) (.tmp 25) rfl w2.heap.size (N10.mk K o16 o16 a0 m0 b0 g0).c rfl rfl 32 nz.c r1 (n10_info hfit) (by rw [N10.size nz_fit, N10.size hfit]) (N10.one _) ?_))
  change Code.wp _ _ _ _ ((w2.alloc (.cells nz.c 32)).setRow w2.heap.size (N10.mk K o16 o16 a0 m0 b0 g0).c)
  have M := HM.out
  clear r1 HM
  generalize (w2.alloc (.cells nz.c 32)).setRow w2.heap.size (N10.mk K o16 o16 a0 m0 b0 g0).c = W5 at M ⊢
  generalize w2.heap.size = g at M ⊢
  go_upto_region 6 with fail
  refine wp_region_noPanic ?_
  refine wp_region_flow (fin := ?fin1) 4 1 (by kernel_rfl) [.inl (.pointer (some ⟨g, 1, none⟩)),
    .inl (.slice (some ⟨g, 1, none⟩) 16 16),
    .inl (.string s),
    .inl (.string (s.extract 8 s.size))] rfl rfl (by kernel_rfl) ?hfin1 ?hE1 ?hend1
  case hfin1 =>
    intro G
    simp only [flowAll, flowVal, Act.put, List.setIfInBounds_toArray, List.set_cons_zero, List.set_cons_succ]
    exact rfl
  case hE1 =>
    intro G
    refine ⟨Or.inr (fun W hB hR => known_val rfl (by go_simp)),
      Or.inr (fun W hB hR => known_val rfl (by go_simp)),
      Or.inr (fun W hB hR => known_val rfl (by go_simp)),
      Or.inr (fun W hB hR => known_val rfl (by go_simp <;> (intro h9; omega))), trivial⟩
  intro G W hB hM
  replace M := M.drew.step hB
  clear hB hM G
  have hcp := copy10_f (M.row 1 rfl) hfit (s.extract 8 s.size) (by rw [ByteArray.size_extract]; omega) (rest_cut s 8 16)
  replace M := M.store 1 rfl (N10.mk K (cut9 s 8 16) o16 a0 m0 b0 g0).c
  simp only [List.set_cons_zero, List.set_cons_succ] at M
  generalize W.setRow g (N10.mk K (cut9 s 8 16) o16 a0 m0 b0 g0).c = W2 at hcp M
  refine val0 4 30 (.int .i64 16) W2 _ (by kernel_rfl) rfl rfl rfl (by go_simp) ?_
  simp only [Act.put]
  refine wpAny_end (by kernel_rfl) ?_ _
  refine NoPanic.normal ?_
  clear hcp
  go_upto_region 7 with fail
  refine wp_region_noPanic ?_
  refine wp_region_flow (fin := ?fin2) 4 1 (by kernel_rfl) [.inl (.pointer (some ⟨g, 17, none⟩)),
    .inl (.slice (some ⟨g, 17, none⟩) 16 16),
    .inl (.string s),
    .inl (.string (s.extract 24 s.size))] rfl rfl (by kernel_rfl) ?hfin2 ?hE2 ?hend2
  case hfin2 =>
    intro G
    simp only [flowAll, flowVal, Act.put, List.setIfInBounds_toArray, List.set_cons_zero, List.set_cons_succ]
    exact rfl
  case hE2 =>
    intro G
    refine ⟨Or.inr (fun W hB hR => known_val rfl (by go_simp)),
      Or.inr (fun W hB hR => known_val rfl (by go_simp)),
      Or.inr (fun W hB hR => known_val rfl (by go_simp)),
      Or.inr (fun W hB hR => known_val rfl (by go_simp <;> (intro h9; omega))), trivial⟩
  intro G W hB hM
  replace M := M.drew.step hB
  clear hB hM G
  have hcp := copy10_t (M.row 1 rfl) x1 (s.extract 24 s.size) (by rw [ByteArray.size_extract]; omega) (rest_cut s 24 16)
  replace M := M.store 1 rfl (N10.mk K (cut9 s 8 16) (cut9 s 24 16) a0 m0 b0 g0).c
  simp only [List.set_cons_zero, List.set_cons_succ] at M
  generalize W.setRow g (N10.mk K (cut9 s 8 16) (cut9 s 24 16) a0 m0 b0 g0).c = W2 at hcp M
  refine val0 4 35 (.int .i64 16) W2 _ (by kernel_rfl) rfl rfl rfl (by go_simp) ?_
  simp only [Act.put]
  refine wpAny_end (by kernel_rfl) ?_ _
  refine NoPanic.normal ?_
  clear hcp
  go_upto_region 9 with fail
  refine wp_region_freePanic ?_
  refine wp_region_flow (fin := ?fin3) 8 1 (by kernel_rfl) [.inl (.string (m.extract 2 4)),
    .inl (.agg (N10.mk K (cut9 s 8 16) (cut9 s 24 16) a0 m0 b0 g0).c),
    .inl (.string m),
    .inl (.string (m.extract 0 2)),
    .inl (.string m),
    .inl (.string (m.extract 4 m.size)),
    .inl (.string R),
    .inl (.bool false)] rfl rfl (by kernel_rfl) ?hfin3 ?hE3 ?hend3
  case hfin3 =>
    intro G
    simp only [flowAll, flowVal, Act.put, List.setIfInBounds_toArray, List.set_cons_zero, List.set_cons_succ]
    exact rfl
  case hE3 =>
    intro G
    refine ⟨Or.inr (fun W hB hR => known_val rfl (by go_simp)),
      Or.inr (fun W hB hR => known_val rfl (by exact exec_load_row 32 (.tmp 5) g ((M.drew.step hB).row 1 rfl) Try.underlying32 rfl (n10_info hsf) rfl rfl)),
      Or.inr (fun W hB hR => known_val rfl (by go_simp)),
      Or.inr (fun W hB hR => known_val rfl (by go_simp)),
      Or.inr (fun W hB hR => known_val rfl (by go_simp)),
      Or.inr (fun W hB hR => known_val rfl (by go_simp)),
      Or.inr (fun W hB hR => known_call 18 #[.agg (N10.mk K (cut9 s 8 16) (cut9 s 24 16) a0 m0 b0 g0).c, .string (m.extract 0 2), .string (m.extract 4 m.size)] (Q3.out W) rfl (by go_simp)),
      Or.inr (fun W hB hR => known_val rfl (by exact exec_eqS (.tmp 38) (.tmp 44) _ _ false HE.out rfl rfl rfl)), trivial⟩
  intro G W hB hM
  replace M := M.drew.step hB
  clear hB hM G
  refine callP 8 46 29 #[.bool false, .int .i64 4] _ (by kernel_rfl) rfl rfl rfl (by go_simp) (demand10_any _ _ _) ?_
  rintro e w3 ⟨rfl, rfl⟩
  refine Or.inr ⟨_, rfl, ?_⟩
  intro a' ha
  go_wp2
  exact ⟨ha, M.below, rfl⟩
set_option maxRecDepth 20000 in
set_option maxHeartbeats 2000000 in
theorem parsed10_ok (s : ByteArray) (h : 64 ≤ s.size) (hh : (headOk (s.extract 0 40) && sizeOk (wd s 4)) = true) (hn : 40 + wd s 4 ≤ s.size) (hm : msgOk (s.extract 40 (40 + wd s 4)) = true) (hs : sumOk s (s.extract 40 (40 + wd s 4)) = true) (w : World) : Calls Try.prog 22 #[.string s] w fun e w' => Below w.heap.size w w' ∧ e = .returned (.agg (saysOf s (s.extract 40 (40 + wd s 4))).c) := by
  have M : Mem w [(w.heap.size, 32, nz.c)] (w.alloc (.cells nz.c 32)) := (Mem.init w).alloc _ rfl _ _
  have t64 : (64 : Int) ≤ (s.size : Int) := by omega
  have t40 : (40 : Int) ≤ (s.size : Int) := by omega
  have q1 := fun W => readHead_any (s.extract 0 40) (by rw [ByteArray.size_extract]; omega) W
  rw [wd_head, hh] at q1
  simp only [if_true] at q1
  have hsz : wd s 4 = 24 ∨ wd s 4 = 32 := sizeOk_spec (by simp only [Bool.and_eq_true] at hh; exact hh.2)
  obtain ⟨m, hm0⟩ : ∃ m, s.extract 40 (40 + wd s 4) = m := ⟨_, rfl⟩
  have hml : m.size = 24 ∨ m.size = 32 := by rw [← hm0, ByteArray.size_extract]; omega
  rw [hm0] at hm hs ⊢
  have q2 := fun W => readMessage_any m hml W
  rw [hm] at q2
  simp only [if_true] at q2
  generalize wd s 4 = n at *
  obtain ⟨q, hq⟩ : ∃ q, 40 + n = q := ⟨_, rfl⟩
  have hw : IntKind.i64.wrap (40 + (n : Int)) = (q : Int) := by rw [IntWalk.i64_in _ (by omega)]; omega
  have Q1 := Lib.hid q1
  clear q1 hh
  have tq : (q : Int) ≤ (s.size : Int) := by omega
  have t4q : (40 : Int) ≤ (q : Int) := by omega
  rw [hq] at hm0
  have hfit := msgOf_fit m hml
  have hsay : saysOf s m = N10.mk (msgOf m).op (cut9 s 8 16) (cut9 s 24 16) (msgOf m).a (msgOf m).m (msgOf m).h (msgOf m).g := rfl
  have hmk : msgOf m = N10.mk (msgOf m).op o16 o16 (msgOf m).a (msgOf m).m (msgOf m).h (msgOf m).g := rfl
  have hsf := saysOf_fit s m h hml
  rw [hsay] at hsf ⊢
  generalize (msgOf m).op = K at *
  generalize (msgOf m).a = a0 at *
  generalize (msgOf m).m = m0 at *
  generalize (msgOf m).h = b0 at *
  generalize (msgOf m).g = g0 at *
  rw [hmk] at q2 hfit
  have x1 : (N10.mk K (cut9 s 8 16) o16 a0 m0 b0 g0).Fit := ⟨cut9_length s 8 16 (by omega), rfl, hfit.a, hfit.m, hfit.g⟩
  have q3 := fun W => sum_any _ hsf (m.extract 0 2).data.toList (m.extract 4 m.size).data.toList (by rw [len_list, ByteArray.size_extract]; omega) (by rw [len_list, ByteArray.size_extract]; omega) W
  rw [str_of, str_of] at q3
  have he : ((m.extract 2 4).data.toList == (⟨(sumB (cut9 s 8 16) (cut9 s 24 16) (m.extract 0 2).data.toList (m.extract 4 m.size).data.toList).toArray⟩ : ByteArray).data.toList) = true := by
    rw [ext_cut2, ext_cut2, rest_at, str_list]
    exact hs
  replace q3 : ∀ W, Calls Try.prog 18 #[.agg (N10.mk K (cut9 s 8 16) (cut9 s 24 16) a0 m0 b0 g0).c, .string (m.extract 0 2), .string (m.extract 4 m.size)] W fun e w' => e = .returned (.string ⟨(sumB (cut9 s 8 16) (cut9 s 24 16) (m.extract 0 2).data.toList (m.extract 4 m.size).data.toList).toArray⟩) ∧ Below W.heap.size W w' := q3
  generalize (⟨(sumB (cut9 s 8 16) (cut9 s 24 16) (m.extract 0 2).data.toList (m.extract 4 m.size).data.toList).toArray⟩ : ByteArray) = R at q3 he
  have hm4 : (4 : Int) ≤ (m.size : Int) := by omega
  have hm2 : (2 : Int) ≤ (m.size : Int) := by omega
  have Q2 := Lib.hid q2
  have Q3 := Lib.hid q3
  have HE := Lib.hid he
  have HM0 := Lib.hid hm0
  clear q2 q3 he hn hsz hq hm hs hml hm0 hsay hmk
  go_enter Try.func22, Try.ntmps22
  go_upto_region 1 with fail
  change Code.wp _ _ _ _ (w.alloc (.cells nz.c 32))
  generalize w.alloc (.cells nz.c 32) = W0 at M ⊢
  go_wp2_with (first
    | (go_at_call 29; refine (demand10_any _ _ _).mono ?_; rintro e w1 ⟨he, rfl⟩; first | (replace he := he.trans demanded_yes; subst he) | (replace he := he.trans demanded_no; subst he))
    | (go_at_call 30; refine (Q1.out _).mono ?_; rintro e w1 ⟨hb1, rfl⟩))
  replace M := M.step hb1
  clear hb1
  rw [HM0.out]
  refine (Q2.out _).mono ?_
  rintro e w2 ⟨hb2, rfl⟩
  replace M := M.step hb2
  clear hb2
  replace M := M.alloc _ rfl 32 nz.c
  simp only [List.cons_append, List.nil_append] at M
  have r1 := M.row 1 rfl
  replace M := M.store 1 rfl (N10.mk K o16 o16 a0 m0 b0 g0).c
  simp only [List.set_cons_zero, List.set_cons_succ] at M
  have HM := Lib.hid M
  clear M
  go_upto_region 6 with (first
    | (refine wpList_store_row rfl 32 (.tmp 5) (.tmp 25) rfl w2.heap.size (N10.mk K o16 o16 a0 m0 b0 g0).c rfl rfl 32 nz.c r1 (n10_info hfit) (by rw [N10.size nz_fit, N10.size hfit]) (N10.one _) ?_))
  change Code.wp _ _ _ _ ((w2.alloc (.cells nz.c 32)).setRow w2.heap.size (N10.mk K o16 o16 a0 m0 b0 g0).c)
  have M := HM.out
  clear r1 HM
  generalize (w2.alloc (.cells nz.c 32)).setRow w2.heap.size (N10.mk K o16 o16 a0 m0 b0 g0).c = W5 at M ⊢
  generalize w2.heap.size = g at M ⊢
  go_upto_region 6 with fail
  refine wp_region_noPanic ?_
  refine wp_region_flow (fin := ?fin4) 4 1 (by kernel_rfl) [.inl (.pointer (some ⟨g, 1, none⟩)),
    .inl (.slice (some ⟨g, 1, none⟩) 16 16),
    .inl (.string s),
    .inl (.string (s.extract 8 s.size))] rfl rfl (by kernel_rfl) ?hfin4 ?hE4 ?hend4
  case hfin4 =>
    intro G
    simp only [flowAll, flowVal, Act.put, List.setIfInBounds_toArray, List.set_cons_zero, List.set_cons_succ]
    exact rfl
  case hE4 =>
    intro G
    refine ⟨Or.inr (fun W hB hR => known_val rfl (by go_simp)),
      Or.inr (fun W hB hR => known_val rfl (by go_simp)),
      Or.inr (fun W hB hR => known_val rfl (by go_simp)),
      Or.inr (fun W hB hR => known_val rfl (by go_simp <;> (intro h9; omega))), trivial⟩
  intro G W hB hM
  replace M := M.drew.step hB
  clear hB hM G
  have hcp := copy10_f (M.row 1 rfl) hfit (s.extract 8 s.size) (by rw [ByteArray.size_extract]; omega) (rest_cut s 8 16)
  replace M := M.store 1 rfl (N10.mk K (cut9 s 8 16) o16 a0 m0 b0 g0).c
  simp only [List.set_cons_zero, List.set_cons_succ] at M
  generalize W.setRow g (N10.mk K (cut9 s 8 16) o16 a0 m0 b0 g0).c = W2 at hcp M
  refine val0 4 30 (.int .i64 16) W2 _ (by kernel_rfl) rfl rfl rfl (by go_simp) ?_
  simp only [Act.put]
  refine wpAny_end (by kernel_rfl) ?_ _
  refine NoPanic.normal ?_
  clear hcp
  go_upto_region 7 with fail
  refine wp_region_noPanic ?_
  refine wp_region_flow (fin := ?fin5) 4 1 (by kernel_rfl) [.inl (.pointer (some ⟨g, 17, none⟩)),
    .inl (.slice (some ⟨g, 17, none⟩) 16 16),
    .inl (.string s),
    .inl (.string (s.extract 24 s.size))] rfl rfl (by kernel_rfl) ?hfin5 ?hE5 ?hend5
  case hfin5 =>
    intro G
    simp only [flowAll, flowVal, Act.put, List.setIfInBounds_toArray, List.set_cons_zero, List.set_cons_succ]
    exact rfl
  case hE5 =>
    intro G
    refine ⟨Or.inr (fun W hB hR => known_val rfl (by go_simp)),
      Or.inr (fun W hB hR => known_val rfl (by go_simp)),
      Or.inr (fun W hB hR => known_val rfl (by go_simp)),
      Or.inr (fun W hB hR => known_val rfl (by go_simp <;> (intro h9; omega))), trivial⟩
  intro G W hB hM
  replace M := M.drew.step hB
  clear hB hM G
  have hcp := copy10_t (M.row 1 rfl) x1 (s.extract 24 s.size) (by rw [ByteArray.size_extract]; omega) (rest_cut s 24 16)
  replace M := M.store 1 rfl (N10.mk K (cut9 s 8 16) (cut9 s 24 16) a0 m0 b0 g0).c
  simp only [List.set_cons_zero, List.set_cons_succ] at M
  generalize W.setRow g (N10.mk K (cut9 s 8 16) (cut9 s 24 16) a0 m0 b0 g0).c = W2 at hcp M
  refine val0 4 35 (.int .i64 16) W2 _ (by kernel_rfl) rfl rfl rfl (by go_simp) ?_
  simp only [Act.put]
  refine wpAny_end (by kernel_rfl) ?_ _
  refine NoPanic.normal ?_
  clear hcp
  go_upto_region 9 with fail
  refine wp_region_freePanic ?_
  refine wp_region_flow (fin := ?fin6) 8 1 (by kernel_rfl) [.inl (.string (m.extract 2 4)),
    .inl (.agg (N10.mk K (cut9 s 8 16) (cut9 s 24 16) a0 m0 b0 g0).c),
    .inl (.string m),
    .inl (.string (m.extract 0 2)),
    .inl (.string m),
    .inl (.string (m.extract 4 m.size)),
    .inl (.string R),
    .inl (.bool true)] rfl rfl (by kernel_rfl) ?hfin6 ?hE6 ?hend6
  case hfin6 =>
    intro G
    simp only [flowAll, flowVal, Act.put, List.setIfInBounds_toArray, List.set_cons_zero, List.set_cons_succ]
    exact rfl
  case hE6 =>
    intro G
    refine ⟨Or.inr (fun W hB hR => known_val rfl (by go_simp)),
      Or.inr (fun W hB hR => known_val rfl (by exact exec_load_row 32 (.tmp 5) g ((M.drew.step hB).row 1 rfl) Try.underlying32 rfl (n10_info hsf) rfl rfl)),
      Or.inr (fun W hB hR => known_val rfl (by go_simp)),
      Or.inr (fun W hB hR => known_val rfl (by go_simp)),
      Or.inr (fun W hB hR => known_val rfl (by go_simp)),
      Or.inr (fun W hB hR => known_val rfl (by go_simp)),
      Or.inr (fun W hB hR => known_call 18 #[.agg (N10.mk K (cut9 s 8 16) (cut9 s 24 16) a0 m0 b0 g0).c, .string (m.extract 0 2), .string (m.extract 4 m.size)] (Q3.out W) rfl (by go_simp)),
      Or.inr (fun W hB hR => known_val rfl (by exact exec_eqS (.tmp 38) (.tmp 44) _ _ true HE.out rfl rfl rfl)), trivial⟩
  intro G W hB hM
  replace M := M.drew.step hB
  clear hB hM G
  refine callP 8 46 29 #[.bool true, .int .i64 4] _ (by kernel_rfl) rfl rfl rfl (by go_simp) (demand10_any _ _ _) ?_
  rintro e w3 ⟨rfl, rfl⟩
  refine Or.inl ⟨_, rfl, ?_⟩
  simp only [Act.put, List.setIfInBounds_toArray, List.set_cons_zero, List.set_cons_succ]
  refine wpAny_end (by kernel_rfl) ?_ _
  refine FreePanic.normal ?_
  have r0 := M.row 0 rfl
  have r1 := M.row 1 rfl
  replace M := M.store 0 rfl (N10.mk K (cut9 s 8 16) (cut9 s 24 16) a0 m0 b0 g0).c
  simp only [List.set_cons_zero] at M
  have HM := Lib.hid M
  clear M
  go_wp2_with (first
    | (refine wpList_load_row rfl 32 (.tmp 5) rfl g rfl 32 (N10.mk K (cut9 s 8 16) (cut9 s 24 16) a0 m0 b0 g0).c (0, 0) _ r1 Try.underlying32 rfl (n10_info hsf) ?_)
    | (refine wpList_store_row rfl 32 (.tmp 2) (.tmp 47) rfl w.heap.size (N10.mk K (cut9 s 8 16) (cut9 s 24 16) a0 m0 b0 g0).c rfl rfl 32 nz.c r0 (n10_info hsf) (by rw [N10.size nz_fit, N10.size hsf]) (N10.one _) ?_))
  exact bodyPost_ret (v := .agg (N10.mk K (cut9 s 8 16) (cut9 s 24 16) a0 m0 b0 g0).c) (results_cell_row rfl _ _ w.heap.size 32 (N10.mk K (cut9 s 8 16) (cut9 s 24 16) a0 m0 b0 g0).c (0, 0) _ rfl (HM.out.row 0 rfl) Try.underlying32 rfl (n10_info hsf)) rfl ⟨HM.out.below, rfl⟩
end Go.Proofs.Ytkjkmnaiddjjnaa
