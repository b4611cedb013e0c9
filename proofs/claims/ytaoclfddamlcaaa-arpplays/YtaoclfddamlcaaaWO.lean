/- The law ArpPlays: walked. -/
import Derived.Test.YtaoclfddamlcaaaWL
import Derived.Test.YtaoclfddamlcaaaWN
import Derived.Test.YtaoclfddamlcaaaWU
namespace Go.Proofs.Ytaoclfddamlcaaa
open Go.RowKit
set_option maxRecDepth 20000 in
set_option maxHeartbeats 2000000 in
theorem plays9_any (s : ByteArray) (x : A9) (hx : x.Fit) (w : World) : Calls Try.prog 5 #[.string s, .agg x.c] w fun e w' => e = .returned (.bool true) ∧ Below w.heap.size w w' := by
  have M : Mem w [(w.heap.size, 26, x.c)] (w.alloc (.cells x.c 26)) := (Mem.init w).alloc _ rfl _ _
  have ha := fun W => awake9_any W
  have HA := Lib.hid ha
  clear ha
  by_cases h0 : 1000 < s.size
  · have h1 : (1000 : Int) < (s.size : Int) := by omega
    go_enter Try.func5, Try.ntmps5
    go_upto_region 1 with fail
    change Code.wp _ _ _ _ (w.alloc (.cells x.c 26))
    generalize w.alloc (.cells x.c 26) = W0 at M ⊢
    go_wp2_with fail
    refine (HA.out _).mono ?_
    rintro e w1 ⟨rfl, hb1⟩
    replace M := M.step hb1
    clear hb1
    go_wp2_with fail
    refine (HA.out _).mono ?_
    rintro e w2 ⟨rfl, hb2⟩
    replace M := M.step hb2
    clear hb2
    go_wp2
    go_ret
    exact ⟨rfl, M.below⟩
  · have h1 : ¬ (1000 : Int) < (s.size : Int) := by omega
    have hof := fun W => of9_any x hx W
    have hpr := fun W => print9_any x hx W
    unfold print9 at hpr
    have hps := fun W => parse9_any s W
    have hrp := fun W => refParse9_any s W
    have hy := parse9_fit s
    generalize (parse9 s).1 = n at hps hrp
    generalize (parse9 s).2 = y at hps hrp hy
    have hpl := fun W => plain9_any y hy W
    have HO := Lib.hid hof
    have HPS := Lib.hid hps
    have HRP := Lib.hid hrp
    have HPL := Lib.hid hpl
    clear hof hps hrp hpl
    by_cases hr : rightO x.op = true
    · rw [if_pos hr] at hpr
      have hrf := fun W => refPrint9_any x hx hr W
      generalize (⟨x.bytes.toArray⟩ : ByteArray) = T at hpr hrf
      have HPR := Lib.hid hpr
      have HRF := Lib.hid hrf
      clear hpr hrf
      rcases rightO_spec hr with e1 | e1
      · clear hr
        go_enter Try.func5, Try.ntmps5
        go_upto_region 1 with fail
        change Code.wp _ _ _ _ (w.alloc (.cells x.c 26))
        generalize w.alloc (.cells x.c 26) = W0 at M ⊢
        go_wp2_with fail
        refine (HA.out _).mono ?_
        rintro e w1 ⟨rfl, hb1⟩
        replace M := M.step hb1
        clear hb1
        go_wp2_with fail
        refine (HPS.out _).mono ?_
        rintro e w2 ⟨rfl, hb2⟩
        replace M := M.step hb2
        clear hb2
        replace M := M.alloc _ rfl 31 az.c
        simp only [List.cons_append, List.nil_append] at M
        have r1 := M.row 1 rfl
        replace M := M.store 1 rfl y.c
        simp only [List.set_cons_zero, List.set_cons_succ] at M
        have HM := Lib.hid M
        clear M
        go_upto_region 4 with (first
          | (refine wpList_store_row rfl 31 (.tmp 5) (.tmp 22) rfl w2.heap.size y.c rfl rfl 31 az.c r1 (a9_info hy) (by rw [A9.size az_fit, A9.size hy]) (A9.one _) ?_))
        change Code.wp _ _ _ _ ((w2.alloc (.cells az.c 31)).setRow w2.heap.size y.c)
        have M := HM.out
        clear r1 HM
        generalize (w2.alloc (.cells az.c 31)).setRow w2.heap.size y.c = W3 at M ⊢
        generalize w2.heap.size = g at M ⊢
        go_wp2_with fail
        refine (HRP.out _).mono ?_
        rintro e w4 ⟨rfl, hb4⟩
        replace M := M.step hb4
        clear hb4
        replace M := M.alloc _ rfl 26 az.c
        simp only [List.cons_append, List.nil_append] at M
        have r2 := M.row 2 rfl
        replace M := M.store 2 rfl y.c
        simp only [List.set_cons_zero, List.set_cons_succ] at M
        have HM := Lib.hid M
        clear M
        go_upto_region 5 with (first
          | (refine wpList_store_row rfl 26 (.tmp 7) (.tmp 27) rfl w4.heap.size y.c rfl rfl 26 az.c r2 (r9_info hy) (by rw [A9.size az_fit, A9.size hy]) (A9.one _) ?_))
        change Code.wp _ _ _ _ ((w4.alloc (.cells az.c 26)).setRow w4.heap.size y.c)
        have M := HM.out
        clear r2 HM
        generalize (w4.alloc (.cells az.c 26)).setRow w4.heap.size y.c = W5 at M ⊢
        generalize w4.heap.size = g2 at M ⊢
        have r0 := M.row 0 rfl
        go_wp2_with (first
          | (refine wpList_load_row rfl 26 (.tmp 3) rfl w.heap.size rfl 26 x.c (0, 0) _ r0 Try.underlying26 rfl (r9_info hx) ?_))
        refine (HO.out _).mono ?_
        rintro e w6 ⟨rfl, hb6⟩
        replace M := M.step hb6
        clear hb6 r0
        go_wp2_with fail
        refine (HPR.out _).mono ?_
        rintro e w7 ⟨rfl, hb7⟩
        replace M := M.step hb7
        clear hb7
        have co := (M.row 0 rfl).aop
        rw [e1] at co
        go_upto_region 8 with fail
        clear co
        refine wp_region_noPanic ?_
        refine wp_region_flow (fin := ?fin1) 20 0 (by kernel_rfl) [.inl (.int .i64 n),
          .inl (.int .i64 n),
          .inl (.bool true),
          .inl (.bool true),
          .inl (.agg y.c),
          .inl (.agg y.c),
          .inl (.agg y.c),
          .inl (.bool true),
          .inl (.bool true),
          .inl (.bool true),
          .inl (.int .i64 0),
          .inl (.bool true),
          .inl (.bool true),
          .inl (.bool true),
          .inl (.string T),
          .inl (.agg x.c),
          .inl (.string T),
          .inl (.bool true),
          .inl (.bool true),
          .inl (.bool true)] rfl rfl (by kernel_rfl) ?hfin1 ?hE1 ?hend1
        case hfin1 =>
          intro G
          simp only [flowAll, flowVal, Act.put, List.setIfInBounds_toArray, List.set_cons_zero, List.set_cons_succ]
          exact rfl
        case hE1 =>
          intro G
          refine ⟨Or.inr (fun W hB hR => known_val rfl (by go_simp)),
            Or.inr (fun W hB hR => known_val rfl (by go_simp)),
            Or.inr (fun W hB hR => known_val rfl (by go_simp)),
            Or.inr (fun W hB hR => known_val rfl (by go_simp)),
            Or.inr (fun W hB hR => known_val rfl (by exact exec_load_row 31 (.tmp 5) g ((M.drew.step hB).row 1 rfl) Try.underlying31 rfl (a9_info hy) rfl rfl)),
            Or.inr (fun W hB hR => known_call 11 #[.agg y.c] (HPL.out W) rfl (by go_simp)),
            Or.inr (fun W hB hR => known_val rfl (by exact exec_load_row 26 (.tmp 7) g2 ((M.drew.step hB).row 2 rfl) Try.underlying26 rfl (r9_info hy) rfl rfl)),
            Or.inr (fun W hB hR => known_val rfl (by exact exec_same9r y hy (.tmp 65) (.tmp 66) rfl rfl rfl)),
            Or.inr (fun W hB hR => known_val rfl (by go_simp)),
            Or.inr (fun W hB hR => known_val rfl (by go_simp)),
            Or.inr (fun W hB hR => known_val rfl (by go_simp)),
            Or.inr (fun W hB hR => known_val rfl (by go_simp)),
            Or.inr (fun W hB hR => known_val rfl (by go_simp)),
            Or.inr (fun W hB hR => known_val rfl (by go_simp)),
            Or.inr (fun W hB hR => known_val rfl (by go_simp)),
            Or.inr (fun W hB hR => known_val rfl (by exact exec_load_row 26 (.tmp 3) w.heap.size ((M.drew.step hB).row 0 rfl) Try.underlying26 rfl (r9_info hx) rfl rfl)),
            Or.inr (fun W hB hR => known_call 16 #[.agg x.c] (HRF.out W) rfl (by go_simp)),
            Or.inr (fun W hB hR => known_val rfl (by go_simp)),
            Or.inr (fun W hB hR => known_val rfl (by go_simp)),
            Or.inr (fun W hB hR => known_val rfl (by go_simp)), trivial⟩
        intro G W hB hM
        replace M := M.drew.step hB
        clear hB hM G
        refine wpAny_end (by kernel_rfl) ?_ _
        refine NoPanic.normal ?_
        go_wp2
        go_ret
        exact ⟨rfl, M.below⟩
      · clear hr
        go_enter Try.func5, Try.ntmps5
        go_upto_region 1 with fail
        change Code.wp _ _ _ _ (w.alloc (.cells x.c 26))
        generalize w.alloc (.cells x.c 26) = W0 at M ⊢
        go_wp2_with fail
        refine (HA.out _).mono ?_
        rintro e w1 ⟨rfl, hb1⟩
        replace M := M.step hb1
        clear hb1
        go_wp2_with fail
        refine (HPS.out _).mono ?_
        rintro e w2 ⟨rfl, hb2⟩
        replace M := M.step hb2
        clear hb2
        replace M := M.alloc _ rfl 31 az.c
        simp only [List.cons_append, List.nil_append] at M
        have r1 := M.row 1 rfl
        replace M := M.store 1 rfl y.c
        simp only [List.set_cons_zero, List.set_cons_succ] at M
        have HM := Lib.hid M
        clear M
        go_upto_region 4 with (first
          | (refine wpList_store_row rfl 31 (.tmp 5) (.tmp 22) rfl w2.heap.size y.c rfl rfl 31 az.c r1 (a9_info hy) (by rw [A9.size az_fit, A9.size hy]) (A9.one _) ?_))
        change Code.wp _ _ _ _ ((w2.alloc (.cells az.c 31)).setRow w2.heap.size y.c)
        have M := HM.out
        clear r1 HM
        generalize (w2.alloc (.cells az.c 31)).setRow w2.heap.size y.c = W3 at M ⊢
        generalize w2.heap.size = g at M ⊢
        go_wp2_with fail
        refine (HRP.out _).mono ?_
        rintro e w4 ⟨rfl, hb4⟩
        replace M := M.step hb4
        clear hb4
        replace M := M.alloc _ rfl 26 az.c
        simp only [List.cons_append, List.nil_append] at M
        have r2 := M.row 2 rfl
        replace M := M.store 2 rfl y.c
        simp only [List.set_cons_zero, List.set_cons_succ] at M
        have HM := Lib.hid M
        clear M
        go_upto_region 5 with (first
          | (refine wpList_store_row rfl 26 (.tmp 7) (.tmp 27) rfl w4.heap.size y.c rfl rfl 26 az.c r2 (r9_info hy) (by rw [A9.size az_fit, A9.size hy]) (A9.one _) ?_))
        change Code.wp _ _ _ _ ((w4.alloc (.cells az.c 26)).setRow w4.heap.size y.c)
        have M := HM.out
        clear r2 HM
        generalize (w4.alloc (.cells az.c 26)).setRow w4.heap.size y.c = W5 at M ⊢
        generalize w4.heap.size = g2 at M ⊢
        have r0 := M.row 0 rfl
        go_wp2_with (first
          | (refine wpList_load_row rfl 26 (.tmp 3) rfl w.heap.size rfl 26 x.c (0, 0) _ r0 Try.underlying26 rfl (r9_info hx) ?_))
        refine (HO.out _).mono ?_
        rintro e w6 ⟨rfl, hb6⟩
        replace M := M.step hb6
        clear hb6 r0
        go_wp2_with fail
        refine (HPR.out _).mono ?_
        rintro e w7 ⟨rfl, hb7⟩
        replace M := M.step hb7
        clear hb7
        have co := (M.row 0 rfl).aop
        rw [e1] at co
        go_upto_region 8 with fail
        clear co
        refine wp_region_noPanic ?_
        refine wp_region_flow (fin := ?fin2) 20 0 (by kernel_rfl) [.inl (.int .i64 n),
          .inl (.int .i64 n),
          .inl (.bool true),
          .inl (.bool true),
          .inl (.agg y.c),
          .inl (.agg y.c),
          .inl (.agg y.c),
          .inl (.bool true),
          .inl (.bool true),
          .inl (.bool true),
          .inl (.int .i64 0),
          .inl (.bool true),
          .inl (.bool true),
          .inl (.bool true),
          .inl (.string T),
          .inl (.agg x.c),
          .inl (.string T),
          .inl (.bool true),
          .inl (.bool true),
          .inl (.bool true)] rfl rfl (by kernel_rfl) ?hfin2 ?hE2 ?hend2
        case hfin2 =>
          intro G
          simp only [flowAll, flowVal, Act.put, List.setIfInBounds_toArray, List.set_cons_zero, List.set_cons_succ]
          exact rfl
        case hE2 =>
          intro G
          refine ⟨Or.inr (fun W hB hR => known_val rfl (by go_simp)),
            Or.inr (fun W hB hR => known_val rfl (by go_simp)),
            Or.inr (fun W hB hR => known_val rfl (by go_simp)),
            Or.inr (fun W hB hR => known_val rfl (by go_simp)),
            Or.inr (fun W hB hR => known_val rfl (by exact exec_load_row 31 (.tmp 5) g ((M.drew.step hB).row 1 rfl) Try.underlying31 rfl (a9_info hy) rfl rfl)),
            Or.inr (fun W hB hR => known_call 11 #[.agg y.c] (HPL.out W) rfl (by go_simp)),
            Or.inr (fun W hB hR => known_val rfl (by exact exec_load_row 26 (.tmp 7) g2 ((M.drew.step hB).row 2 rfl) Try.underlying26 rfl (r9_info hy) rfl rfl)),
            Or.inr (fun W hB hR => known_val rfl (by exact exec_same9r y hy (.tmp 65) (.tmp 66) rfl rfl rfl)),
            Or.inr (fun W hB hR => known_val rfl (by go_simp)),
            Or.inr (fun W hB hR => known_val rfl (by go_simp)),
            Or.inr (fun W hB hR => known_val rfl (by go_simp)),
            Or.inr (fun W hB hR => known_val rfl (by go_simp)),
            Or.inr (fun W hB hR => known_val rfl (by go_simp)),
            Or.inr (fun W hB hR => known_val rfl (by go_simp)),
            Or.inr (fun W hB hR => known_val rfl (by go_simp)),
            Or.inr (fun W hB hR => known_val rfl (by exact exec_load_row 26 (.tmp 3) w.heap.size ((M.drew.step hB).row 0 rfl) Try.underlying26 rfl (r9_info hx) rfl rfl)),
            Or.inr (fun W hB hR => known_call 16 #[.agg x.c] (HRF.out W) rfl (by go_simp)),
            Or.inr (fun W hB hR => known_val rfl (by go_simp)),
            Or.inr (fun W hB hR => known_val rfl (by go_simp)),
            Or.inr (fun W hB hR => known_val rfl (by go_simp)), trivial⟩
        intro G W hB hM
        replace M := M.drew.step hB
        clear hB hM G
        refine wpAny_end (by kernel_rfl) ?_ _
        refine NoPanic.normal ?_
        go_wp2
        go_ret
        exact ⟨rfl, M.below⟩
    · rw [if_neg hr] at hpr
      rw [Bool.not_eq_true] at hr
      have hne := rightO_not hr
      have hn1 : (x.op != 1) = true := by simpa using hne.1
      have hn2 : (x.op != 2) = true := by simpa using hne.2
      have HPR := Lib.hid hpr
      clear hpr hr hne
      go_enter Try.func5, Try.ntmps5
      go_upto_region 1 with fail
      change Code.wp _ _ _ _ (w.alloc (.cells x.c 26))
      generalize w.alloc (.cells x.c 26) = W0 at M ⊢
      go_wp2_with fail
      refine (HA.out _).mono ?_
      rintro e w1 ⟨rfl, hb1⟩
      replace M := M.step hb1
      clear hb1
      go_wp2_with fail
      refine (HPS.out _).mono ?_
      rintro e w2 ⟨rfl, hb2⟩
      replace M := M.step hb2
      clear hb2
      replace M := M.alloc _ rfl 31 az.c
      simp only [List.cons_append, List.nil_append] at M
      have r1 := M.row 1 rfl
      replace M := M.store 1 rfl y.c
      simp only [List.set_cons_zero, List.set_cons_succ] at M
      have HM := Lib.hid M
      clear M
      go_upto_region 4 with (first
        | (refine wpList_store_row rfl 31 (.tmp 5) (.tmp 22) rfl w2.heap.size y.c rfl rfl 31 az.c r1 (a9_info hy) (by rw [A9.size az_fit, A9.size hy]) (A9.one _) ?_))
      change Code.wp _ _ _ _ ((w2.alloc (.cells az.c 31)).setRow w2.heap.size y.c)
      have M := HM.out
      clear r1 HM
      generalize (w2.alloc (.cells az.c 31)).setRow w2.heap.size y.c = W3 at M ⊢
      generalize w2.heap.size = g at M ⊢
      go_wp2_with fail
      refine (HRP.out _).mono ?_
      rintro e w4 ⟨rfl, hb4⟩
      replace M := M.step hb4
      clear hb4
      replace M := M.alloc _ rfl 26 az.c
      simp only [List.cons_append, List.nil_append] at M
      have r2 := M.row 2 rfl
      replace M := M.store 2 rfl y.c
      simp only [List.set_cons_zero, List.set_cons_succ] at M
      have HM := Lib.hid M
      clear M
      go_upto_region 5 with (first
        | (refine wpList_store_row rfl 26 (.tmp 7) (.tmp 27) rfl w4.heap.size y.c rfl rfl 26 az.c r2 (r9_info hy) (by rw [A9.size az_fit, A9.size hy]) (A9.one _) ?_))
      change Code.wp _ _ _ _ ((w4.alloc (.cells az.c 26)).setRow w4.heap.size y.c)
      have M := HM.out
      clear r2 HM
      generalize (w4.alloc (.cells az.c 26)).setRow w4.heap.size y.c = W5 at M ⊢
      generalize w4.heap.size = g2 at M ⊢
      have r0 := M.row 0 rfl
      go_wp2_with (first
        | (refine wpList_load_row rfl 26 (.tmp 3) rfl w.heap.size rfl 26 x.c (0, 0) _ r0 Try.underlying26 rfl (r9_info hx) ?_))
      refine (HO.out _).mono ?_
      rintro e w6 ⟨rfl, hb6⟩
      replace M := M.step hb6
      clear hb6 r0
      go_wp2_with fail
      refine (HPR.out _).mono ?_
      rintro e w7 ⟨rfl, hb7⟩
      replace M := M.step hb7
      clear hb7
      have co := (M.row 0 rfl).aop
      go_upto_region 7 with fail
      clear co
      refine wp_region_noPanic ?_
      refine wp_region_flow (fin := ?fin3) 18 0 (by kernel_rfl) [.inl (.int .i64 n),
        .inl (.int .i64 n),
        .inl (.bool true),
        .inl (.bool true),
        .inl (.agg y.c),
        .inl (.agg y.c),
        .inl (.agg y.c),
        .inl (.bool true),
        .inl (.bool true),
        .inl (.bool true),
        .inl (.int .i64 3),
        .inl (.bool true),
        .inl (.bool true),
        .inl (.bool true),
        .inl (.string ⟨([] : List UInt8).toArray⟩),
        .inl (.bool true),
        .inl (.bool true),
        .inl (.bool true)] rfl rfl (by kernel_rfl) ?hfin3 ?hE3 ?hend3
      case hfin3 =>
        intro G
        simp only [flowAll, flowVal, Act.put, List.setIfInBounds_toArray, List.set_cons_zero, List.set_cons_succ]
        exact rfl
      case hE3 =>
        intro G
        refine ⟨Or.inr (fun W hB hR => known_val rfl (by go_simp)),
          Or.inr (fun W hB hR => known_val rfl (by go_simp)),
          Or.inr (fun W hB hR => known_val rfl (by go_simp)),
          Or.inr (fun W hB hR => known_val rfl (by go_simp)),
          Or.inr (fun W hB hR => known_val rfl (by exact exec_load_row 31 (.tmp 5) g ((M.drew.step hB).row 1 rfl) Try.underlying31 rfl (a9_info hy) rfl rfl)),
          Or.inr (fun W hB hR => known_call 11 #[.agg y.c] (HPL.out W) rfl (by go_simp)),
          Or.inr (fun W hB hR => known_val rfl (by exact exec_load_row 26 (.tmp 7) g2 ((M.drew.step hB).row 2 rfl) Try.underlying26 rfl (r9_info hy) rfl rfl)),
          Or.inr (fun W hB hR => known_val rfl (by exact exec_same9r y hy (.tmp 48) (.tmp 49) rfl rfl rfl)),
          Or.inr (fun W hB hR => known_val rfl (by go_simp)),
          Or.inr (fun W hB hR => known_val rfl (by go_simp)),
          Or.inr (fun W hB hR => known_val rfl (by go_simp)),
          Or.inr (fun W hB hR => known_val rfl (by go_simp)),
          Or.inr (fun W hB hR => known_val rfl (by go_simp)),
          Or.inr (fun W hB hR => known_val rfl (by go_simp)),
          Or.inr (fun W hB hR => known_val rfl (by go_simp)),
          Or.inr (fun W hB hR => known_val rfl (by go_simp)),
          Or.inr (fun W hB hR => known_val rfl (by go_simp)),
          Or.inr (fun W hB hR => known_val rfl (by go_simp)), trivial⟩
      intro G W hB hM
      replace M := M.drew.step hB
      clear hB hM G
      refine wpAny_end (by kernel_rfl) ?_ _
      refine NoPanic.normal ?_
      go_wp2
      go_ret
      exact ⟨rfl, M.below⟩
end Go.Proofs.Ytaoclfddamlcaaa
