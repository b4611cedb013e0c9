/- The law ArpCut: walked. -/
import Derived.Test.YtaoclfddamlcaaaWL
namespace Go.Proofs.Ytaoclfddamlcaaa
open Go.RowKit
theorem parse9_cut (s : ByteArray) (n : Nat) (hn : n < 28) (hs : s.size = 28) : parse9 (s.extract 0 n) = (2, az) := by
  unfold parse9
  rw [if_pos (by rw [ByteArray.size_extract]; omega)]
set_option maxRecDepth 20000 in
set_option maxHeartbeats 1000000 in
theorem cut9_any (x : A9) (hx : x.Fit) (q : Nat) (hq : q < 256) (more : ByteArray) (w : World) : Calls Try.prog 6 #[.agg x.c, .int .u8 (q : Int), .string more] w fun e w' => e = .returned (.bool true) ∧ Below w.heap.size w w' := by
  have M : Mem w [(w.heap.size, 26, x.c)] (w.alloc (.cells x.c 26)) := (Mem.init w).alloc _ rfl _ _
  have ha := fun W => awake9_any W
  have HA := Lib.hid ha
  have hof := fun W => of9_any x hx W
  have hpr := fun W => print9_any x hx W
  unfold print9 at hpr
  have HO := Lib.hid hof
  clear hof ha
  by_cases hr : rightO x.op = true
  · rw [if_pos hr] at hpr
    by_cases h0 : 1000 < more.size
    · have h1 : (1000 : Int) < (more.size : Int) := by omega
      have HPR := Lib.hid hpr
      clear hpr hr
      generalize (⟨x.bytes.toArray⟩ : ByteArray) = T at HPR
      go_enter Try.func6, Try.ntmps6
      go_upto_region 1 with fail
      change Code.wp _ _ _ _ (w.alloc (.cells x.c 26))
      generalize w.alloc (.cells x.c 26) = W0 at M ⊢
      have r0 := M.row 0 rfl
      go_wp2_with (first
        | (refine wpList_load_row rfl 26 (.tmp 3) rfl w.heap.size rfl 26 x.c (0, 0) _ r0 Try.underlying26 rfl (r9_info hx) ?_))
      refine (HO.out _).mono ?_
      rintro e w1 ⟨rfl, hb1⟩
      replace M := M.step hb1
      clear hb1 r0
      go_wp2_with fail
      refine (HPR.out _).mono ?_
      rintro e w2 ⟨rfl, hb2⟩
      replace M := M.step hb2
      clear hb2
      go_wp2_with fail
      refine (HA.out _).mono ?_
      rintro e w3 ⟨rfl, hb3⟩
      replace M := M.step hb3
      clear hb3
      go_wp2_with fail
      refine (HA.out _).mono ?_
      rintro e w4 ⟨rfl, hb4⟩
      replace M := M.step hb4
      clear hb4
      go_wp2
      go_ret
      exact ⟨rfl, M.below⟩
    · have h1 : ¬ (1000 : Int) < (more.size : Int) := by omega
      have hps := fun W => parse9_any (⟨x.bytes.toArray⟩ ++ more) W
      have hcat := cat_more x.bytes more
      rw [hcat, parse_print hx hr] at hps
      have hsz := print9_size hx
      obtain ⟨n, hn⟩ : ∃ n, q % 28 = n := ⟨_, rfl⟩
      have hn28 : n < 28 := by omega
      have hmod : (wrap64 (q : Int)).tmod 28 = (n : Int) := by rw [show wrap64 (q : Int) = (q : Int) from by unfold wrap64; omega, Int.tmod_eq_emod_of_nonneg (by omega)]; omega
      have hpc := fun W => parse9_any ((⟨x.bytes.toArray⟩ : ByteArray).extract 0 n) W
      rw [parse9_cut _ n hn28 hsz] at hpc
      have hpl := fun W => plain9_any x hx W
      have HPR := Lib.hid hpr
      have HPS := Lib.hid hps
      have HPC := Lib.hid hpc
      have HPL := Lib.hid hpl
      clear hpr hps hpl hpc hr
      generalize (⟨(x.bytes ++ more.data.toList).toArray⟩ : ByteArray) = S at hcat HPS
      generalize (⟨x.bytes.toArray⟩ : ByteArray) = T at hcat HPR HPC hsz
      have HC := Lib.hid hcat
      have hnT : (n : Int) ≤ (T.size : Int) := by omega
      have hn0 : (0 : Int) ≤ (n : Int) := by omega
      clear hcat hn hq
      go_enter Try.func6, Try.ntmps6
      go_upto_region 1 with fail
      change Code.wp _ _ _ _ (w.alloc (.cells x.c 26))
      generalize w.alloc (.cells x.c 26) = W0 at M ⊢
      have r0 := M.row 0 rfl
      go_wp2_with (first
        | (refine wpList_load_row rfl 26 (.tmp 3) rfl w.heap.size rfl 26 x.c (0, 0) _ r0 Try.underlying26 rfl (r9_info hx) ?_))
      refine (HO.out _).mono ?_
      rintro e w1 ⟨rfl, hb1⟩
      replace M := M.step hb1
      clear hb1 r0
      go_wp2_with fail
      refine (HPR.out _).mono ?_
      rintro e w2 ⟨rfl, hb2⟩
      replace M := M.step hb2
      clear hb2
      go_wp2_with fail
      refine (HA.out _).mono ?_
      rintro e w3 ⟨rfl, hb3⟩
      replace M := M.step hb3
      clear hb3
      go_wp2_with fail
      refine (HPC.out _).mono ?_
      rintro e w4 ⟨rfl, hb4⟩
      replace M := M.step hb4
      clear hb4
      replace M := M.alloc _ rfl 31 az.c
      simp only [List.cons_append, List.nil_append] at M
      have r1 := M.row 1 rfl
      replace M := M.store 1 rfl az.c
      simp only [List.set_cons_zero, List.set_cons_succ] at M
      have HM := Lib.hid M
      clear M
      go_upto_region 5 with (first
        | (refine wpList_store_row rfl 31 (.tmp 9) (.tmp 38) rfl w4.heap.size az.c rfl rfl 31 az.c r1 (a9_info az_fit) rfl (A9.one _) ?_))
      change Code.wp _ _ _ _ ((w4.alloc (.cells az.c 31)).setRow w4.heap.size az.c)
      have M := HM.out
      clear r1 HM
      generalize (w4.alloc (.cells az.c 31)).setRow w4.heap.size az.c = W5 at M ⊢
      generalize w4.heap.size = g at M ⊢
      go_wp2_with (first
        | (refine wpExec rfl (.string S) (exec_cat (.tmp 41) (.tmp 42) _ _ _ HC.out (by omega) rfl rfl rfl) ?_))
      refine (HPS.out _).mono ?_
      rintro e w6 ⟨rfl, hb6⟩
      replace M := M.step hb6
      clear hb6
      replace M := M.alloc _ rfl 31 az.c
      simp only [List.cons_append, List.nil_append] at M
      have r2 := M.row 2 rfl
      replace M := M.store 2 rfl x.c
      simp only [List.set_cons_zero, List.set_cons_succ] at M
      have HM := Lib.hid M
      clear M
      go_upto_region 6 with (first
        | (refine wpList_store_row rfl 31 (.tmp 11) (.tmp 45) rfl w6.heap.size x.c rfl rfl 31 az.c r2 (a9_info hx) (by rw [A9.size az_fit, A9.size hx]) (A9.one _) ?_))
      change Code.wp _ _ _ _ ((w6.alloc (.cells az.c 31)).setRow w6.heap.size x.c)
      have M := HM.out
      clear r2 HM
      generalize (w6.alloc (.cells az.c 31)).setRow w6.heap.size x.c = W7 at M ⊢
      generalize w6.heap.size = g2 at M ⊢
      refine wp_region_noPanic ?_
      refine wp_region_flow (fin := ?fin1) 18 0 (by kernel_rfl) [.inl (.int .i64 2),
        .inl (.bool true),
        .inl (.bool true),
        .inl (.agg az.c),
        .inl (.agg az.c),
        .inl (.bool true),
        .inl (.bool true),
        .inl (.bool true),
        .inl (.int .i64 0),
        .inl (.bool true),
        .inl (.bool true),
        .inl (.bool true),
        .inl (.agg x.c),
        .inl (.agg x.c),
        .inl (.agg x.c),
        .inl (.bool true),
        .inl (.bool true),
        .inl (.bool true)] rfl rfl (by kernel_rfl) ?hfin1 ?hE1 ?hend1
      case hfin1 =>
        intro G
        simp only [flowAll, flowVal, Act.put, List.setIfInBounds_toArray, List.set_cons_zero, List.set_cons_succ]
        exact rfl
      case hE1 =>
        intro G
        refine ⟨Or.inr (fun W hB hR => known_val rfl (by go_simp)),
          Or.inr (fun W hB hR => known_val rfl (by go_simp)),
          Or.inr (fun W hB hR => known_val rfl (by go_simp)),
          Or.inr (fun W hB hR => known_val rfl (by exact exec_load_row 31 (.tmp 9) g ((M.drew.step hB).row 1 rfl) Try.underlying31 rfl (a9_info az_fit) rfl rfl)),
          Or.inr (fun W hB hR => known_val rfl (by unfold execOp; go_simp; rfl)),
          Or.inr (fun W hB hR => known_val rfl (by exact exec_same9 az az_fit (.tmp 50) (.tmp 51) rfl rfl rfl)),
          Or.inr (fun W hB hR => known_val rfl (by go_simp)),
          Or.inr (fun W hB hR => known_val rfl (by go_simp)),
          Or.inr (fun W hB hR => known_val rfl (by go_simp)),
          Or.inr (fun W hB hR => known_val rfl (by go_simp)),
          Or.inr (fun W hB hR => known_val rfl (by go_simp)),
          Or.inr (fun W hB hR => known_val rfl (by go_simp)),
          Or.inr (fun W hB hR => known_val rfl (by exact exec_load_row 31 (.tmp 11) g2 ((M.drew.step hB).row 2 rfl) Try.underlying31 rfl (a9_info hx) rfl rfl)),
          Or.inr (fun W hB hR => known_call 11 #[.agg x.c] (HPL.out W) rfl (by go_simp)),
          Or.inr (fun W hB hR => known_val rfl (by exact exec_load_row 26 (.tmp 3) w.heap.size ((M.drew.step hB).row 0 rfl) Try.underlying26 rfl (r9_info hx) rfl rfl)),
          Or.inr (fun W hB hR => known_val rfl (by exact exec_same9r x hx (.tmp 60) (.tmp 61) rfl rfl rfl)),
          Or.inr (fun W hB hR => known_val rfl (by go_simp)),
          Or.inr (fun W hB hR => known_val rfl (by go_simp)), trivial⟩
      intro G W hB hM
      replace M := M.drew.step hB
      clear hB hM G
      refine wpAny_end (by kernel_rfl) ?_ _
      refine NoPanic.normal ?_
      go_wp2
      go_ret
      exact ⟨rfl, M.below⟩
  · rw [if_neg hr] at hpr
    have HPR := Lib.hid hpr
    clear hpr hr
    go_enter Try.func6, Try.ntmps6
    go_upto_region 1 with fail
    change Code.wp _ _ _ _ (w.alloc (.cells x.c 26))
    generalize w.alloc (.cells x.c 26) = W0 at M ⊢
    have r0 := M.row 0 rfl
    go_wp2_with (first
      | (refine wpList_load_row rfl 26 (.tmp 3) rfl w.heap.size rfl 26 x.c (0, 0) _ r0 Try.underlying26 rfl (r9_info hx) ?_))
    refine (HO.out _).mono ?_
    rintro e w1 ⟨rfl, hb1⟩
    replace M := M.step hb1
    clear hb1 r0
    go_wp2_with fail
    refine (HPR.out _).mono ?_
    rintro e w2 ⟨rfl, hb2⟩
    replace M := M.step hb2
    clear hb2
    go_wp2_with fail
    refine (HA.out _).mono ?_
    rintro e w3 ⟨rfl, hb3⟩
    replace M := M.step hb3
    clear hb3
    go_wp2_with fail
    refine (HA.out _).mono ?_
    rintro e w4 ⟨rfl, hb4⟩
    replace M := M.step hb4
    clear hb4
    go_wp2
    go_ret
    exact ⟨rfl, M.below⟩
theorem cut9_law (x : A9) (hx : x.Fit) (q : Int) (more : ByteArray) (wq : (Lit.int .u8 q).wf = true) (w : World) : Calls Try.prog 6 #[.agg x.c, .int .u8 q, .string more] w fun e w' => e = .returned (.bool true) ∧ Below w.heap.size w w' := by
  have hq : 0 ≤ q ∧ q < 256 := by
    simp [Lit.wf, IntKind.min, IntKind.max, IntKind.signed, IntKind.bits] at wq
    omega
  obtain ⟨j, rfl⟩ := Int.eq_ofNat_of_zero_le hq.1
  exact cut9_any x hx j (by omega) more w
end Go.Proofs.Ytaoclfddamlcaaa
