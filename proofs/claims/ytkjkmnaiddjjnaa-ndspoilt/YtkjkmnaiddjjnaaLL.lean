/- The law NdBack: walked. -/
import Derived.Test.YtkjkmnaiddjjnaaLI
import Derived.Test.YtkjkmnaiddjjnaaLJ
import Derived.Test.YtkjkmnaiddjjnaaLK
namespace Go.Proofs.Ytkjkmnaiddjjnaa
open Go.RowKit
theorem print10_size {x : N10} (h : x.Fit) : (⟨x.bytes.toArray⟩ : ByteArray).size ≤ 72 := by
  rw [str_size, N10.bytes_length h]
  split <;> omega
theorem right_wf {x : N10} (h : x.right = true) : (Lit.int .i64 x.op).wf = true := by
  obtain ⟨⟨k, hk, hk2⟩, _⟩ := N10.right_spec h
  rw [hk]
  rcases hk2 with rfl | rfl <;> decide
set_option maxRecDepth 20000 in
set_option maxHeartbeats 1000000 in
theorem back10_any (x : N10) (hx : x.Fit) (more : ByteArray) (w : World) : Calls Try.prog 3 #[.agg x.c, .string more] w fun e w' => e = .returned (.bool true) ∧ Below w.heap.size w w' := by
  have M : Mem w [(w.heap.size, 27, x.c)] (w.alloc (.cells x.c 27)) := (Mem.init w).alloc _ rfl _ _
  have ha := fun W => awake10_any W
  have HA := Lib.hid ha
  clear ha
  by_cases h0 : 1000 < more.size
  · have h1 : (1000 : Int) < (more.size : Int) := by omega
    go_enter Try.func3, Try.ntmps3
    go_wp2_with fail
    generalize w.alloc (.cells x.c 27) = W0 at M ⊢
    refine (HA.out _).mono ?_
    rintro e w1 ⟨rfl, hb1⟩
    replace M := M.step hb1
    clear hb1
    go_wp2_with fail
    refine (HA.out _).mono ?_
    rintro e w2 ⟨rfl, hb2⟩
    replace M := M.step hb2
    clear hb2
    go_wp2
    go_ret
    exact ⟨rfl, M.below⟩
  · have h1 : ¬ (1000 : Int) < (more.size : Int) := by omega
    have hof := fun W => of10_any x hx W
    have hpr := fun W => print10_any x hx W
    unfold print10 at hpr
    have HO := Lib.hid hof
    clear hof
    by_cases hr : x.right = true
    · rw [if_pos hr] at hpr
      have hwf := right_wf hr
      have hps := fun W => parse10_any (⟨x.bytes.toArray⟩ ++ more) W
      have hcat := cat_more x.bytes more
      rw [hcat, parse_print10 hx hr] at hps
      have hsz := print10_size hx
      have hpl := fun W => plain10_any x hx W
      have HPR := Lib.hid hpr
      have HPS := Lib.hid hps
      have HPL := Lib.hid hpl
      clear hpr hps hpl hr
      generalize (⟨(x.bytes ++ more.data.toList).toArray⟩ : ByteArray) = S at hcat HPS
      generalize (⟨x.bytes.toArray⟩ : ByteArray) = T at hcat HPR hsz
      have HC := Lib.hid hcat
      clear hcat
      go_enter Try.func3, Try.ntmps3
      go_wp2_with fail
      generalize w.alloc (.cells x.c 27) = W0 at M ⊢
      refine (HA.out _).mono ?_
      rintro e w1 ⟨rfl, hb1⟩
      replace M := M.step hb1
      clear hb1
      have r0 := M.row 0 rfl
      go_wp2_with (first
        | (refine wpList_load_row rfl 27 (.tmp 2) rfl w.heap.size rfl 27 x.c (0, 0) _ r0 Try.underlying27 rfl (r10_info hx) ?_))
      refine (HO.out _).mono ?_
      rintro e w2 ⟨rfl, hb2⟩
      replace M := M.step hb2
      clear hb2 r0
      go_wp2_with fail
      refine (HPR.out _).mono ?_
      rintro e w3 ⟨rfl, hb3⟩
      replace M := M.step hb3
      clear hb3
      go_wp2_with (first
        | (refine wpExec rfl (.string S) (exec_cat (.tmp 33) (.tmp 34) _ _ _ HC.out (by omega) rfl rfl rfl) ?_))
      refine (HPS.out _).mono ?_
      rintro e w4 ⟨rfl, hb4⟩
      replace M := M.step hb4
      clear hb4
      replace M := M.alloc _ rfl 32 nz.c
      simp only [List.cons_append, List.nil_append] at M
      have r1 := M.row 1 rfl
      replace M := M.store 1 rfl x.c
      simp only [List.set_cons_zero, List.set_cons_succ] at M
      have HM := Lib.hid M
      clear M
      go_upto_region 7 with (first
        | (refine wpList_store_row rfl 32 (.tmp 7) (.tmp 37) rfl w4.heap.size x.c rfl rfl 32 nz.c r1 (n10_info hx) (by rw [N10.size nz_fit, N10.size hx]) (N10.one _) ?_))
      change Code.wp _ _ _ _ ((w4.alloc (.cells nz.c 32)).setRow w4.heap.size x.c)
      have M := HM.out
      clear r1 HM
      generalize (w4.alloc (.cells nz.c 32)).setRow w4.heap.size x.c = W5 at M ⊢
      generalize w4.heap.size = g at M ⊢
      refine wp_region_noPanic ?_
      refine wp_region_flow (fin := ?fin1) 9 0 (by kernel_rfl) [.inl (.int .i64 0),
        .inl (.bool true),
        .inl (.bool true),
        .inl (.agg x.c),
        .inl (.agg x.c),
        .inl (.agg x.c),
        .inl (.bool true),
        .inl (.bool true),
        .inl (.bool true)] rfl rfl (by kernel_rfl) ?hfin1 ?hE1 ?hend1
      case hfin1 =>
        intro G
        simp only [flowAll, flowVal, Act.put, List.setIfInBounds_toArray, List.set_cons_zero, List.set_cons_succ]
        exact rfl
      case hE1 =>
        intro G
        refine ⟨Or.inr (fun W hB hR => known_val rfl (by go_simp)),
          Or.inr (fun W hB hR => known_val rfl (by go_simp)),
          Or.inr (fun W hB hR => known_val rfl (by go_simp)),
          Or.inr (fun W hB hR => known_val rfl (by exact exec_load_row 32 (.tmp 7) g ((M.drew.step hB).row 1 rfl) Try.underlying32 rfl (n10_info hx) rfl rfl)),
          Or.inr (fun W hB hR => known_call 12 #[.agg x.c] (HPL.out W) rfl (by go_simp)),
          Or.inr (fun W hB hR => known_val rfl (by exact exec_load_row 27 (.tmp 2) w.heap.size ((M.drew.step hB).row 0 rfl) Try.underlying27 rfl (r10_info hx) rfl rfl)),
          Or.inr (fun W hB hR => known_val rfl (by exact exec_same10r x hx hwf (.tmp 43) (.tmp 44) rfl rfl rfl)),
          Or.inr (fun W hB hR => known_val rfl (by go_simp)),
          Or.inr (fun W hB hR => known_val rfl (by go_simp)), trivial⟩
      intro G W hB hM
      replace M := M.drew.step hB
      clear hB hM G
      refine wpAny_end (by kernel_rfl) ?_ _
      refine NoPanic.normal ?_
      go_wp2
      go_ret
      exact ⟨rfl, M.below⟩
    · rw [if_neg hr] at hpr
      rw [Bool.not_eq_true] at hr
      have hri := fun W => right10_any x hx W
      rw [hr] at hri
      have HPR := Lib.hid hpr
      have HRI := Lib.hid hri
      clear hpr hr hri
      go_enter Try.func3, Try.ntmps3
      go_wp2_with fail
      generalize w.alloc (.cells x.c 27) = W0 at M ⊢
      refine (HA.out _).mono ?_
      rintro e w1 ⟨rfl, hb1⟩
      replace M := M.step hb1
      clear hb1
      have r0 := M.row 0 rfl
      go_wp2_with (first
        | (refine wpList_load_row rfl 27 (.tmp 2) rfl w.heap.size rfl 27 x.c (0, 0) _ r0 Try.underlying27 rfl (r10_info hx) ?_))
      refine (HO.out _).mono ?_
      rintro e w2 ⟨rfl, hb2⟩
      replace M := M.step hb2
      clear hb2 r0
      go_wp2_with fail
      refine (HPR.out _).mono ?_
      rintro e w3 ⟨rfl, hb3⟩
      replace M := M.step hb3
      clear hb3
      have r0 := M.row 0 rfl
      have HM := Lib.hid M
      clear M
      go_wp2_with (first
        | (refine wpList_load_rowG (by kernel_rfl) 27 (.tmp 2) rfl w.heap.size rfl 27 x.c (0, 0) _ r0 Try.underlying27 rfl (r10_info hx) ?_))
      refine (HRI.out _).mono ?_
      rintro e w4 ⟨rfl, hb4⟩
      go_wp2
      go_ret
      exact ⟨rfl, (HM.out.step hb4).below⟩
end Go.Proofs.Ytkjkmnaiddjjnaa
