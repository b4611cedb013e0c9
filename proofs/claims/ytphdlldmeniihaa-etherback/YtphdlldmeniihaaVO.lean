/- The law EtherBack: walked. -/
import Derived.Test.YtphdlldmeniihaaVN
namespace Go.Proofs.Ytphdlldmeniihaa
open Go.RowKit
set_option maxRecDepth 20000 in
set_option maxHeartbeats 1000000 in
theorem back8_any (x : E8) (hx : x.Six) (w : World) : Calls Try.prog 3 #[.agg x.c] w fun e w' => e = .returned (.bool true) ∧ Below w.heap.size w w' := by
  have M : Mem w [(w.heap.size, 27, x.c)] (w.alloc (.cells x.c 27)) := (Mem.init w).alloc _ rfl _ _
  have ha := fun W => awake_any W
  have HA := Lib.hid ha
  clear ha
  by_cases h0 : 2000 < x.b.size
  · have h1 : (2000 : Int) < (x.b.size : Int) := by omega
    go_enter Try.func3, Try.ntmps3
    go_wp2_with fail
    generalize w.alloc (.cells x.c 27) = W0 at M ⊢
    refine (HA.out _).mono ?_
    rintro e w1 ⟨rfl, hb1⟩
    replace M := M.step hb1
    clear hb1
    have cb := (M.row 0 rfl).fb hx
    go_wp2_with fail
    refine (HA.out _).mono ?_
    rintro e w2 ⟨rfl, hb2⟩
    replace M := M.step hb2
    clear hb2 cb
    go_wp2
    go_ret
    exact ⟨rfl, M.below⟩
  · have h1 : ¬ (2000 : Int) < (x.b.size : Int) := by omega
    have hof := fun W => of_any x hx W
    have hpr := fun W => print_any x hx W
    have hrt := fun W => right_any x hx W
    have HO := Lib.hid hof
    clear hof
    by_cases hr : x.right = true
    · unfold printF at hpr
      rw [if_pos hr] at hpr
      rw [hr] at hrt
      have hps := fun W => parse_any ⟨x.bytes.toArray⟩ (bytes_small hx (by omega)) W
      rw [parse_bytes hx hr] at hps
      have hpl := fun W => plain_any x hx W
      have HPR := Lib.hid hpr
      have HRT := Lib.hid hrt
      have HPS := Lib.hid hps
      have HPL := Lib.hid hpl
      clear hpr hrt hps hpl hr
      generalize x.bytes = T at HPR HPS
      go_enter Try.func3, Try.ntmps3
      go_wp2_with fail
      generalize w.alloc (.cells x.c 27) = W0 at M ⊢
      refine (HA.out _).mono ?_
      rintro e w1 ⟨rfl, hb1⟩
      replace M := M.step hb1
      clear hb1
      have cb := (M.row 0 rfl).fb hx
      have r0 := M.row 0 rfl
      go_wp2_with (first
        | (refine wpList_load_row rfl 27 (.tmp 1) rfl w.heap.size rfl 27 x.c (0, 0) _ r0 Try.underlying27 rfl (r8_info hx) ?_))
      refine (HO.out _).mono ?_
      rintro e w2 ⟨rfl, hb2⟩
      replace M := M.step hb2
      clear hb2 cb r0
      go_wp2_with fail
      refine (HPR.out _).mono ?_
      rintro e w3 ⟨rfl, hb3⟩
      replace M := M.step hb3
      clear hb3
      go_wp2_with fail
      refine (HPS.out _).mono ?_
      rintro e w4 ⟨rfl, hb4⟩
      replace M := M.step hb4
      clear hb4
      replace M := M.alloc _ rfl 32 ez.c
      simp only [List.cons_append, List.nil_append] at M
      have r1 := M.row 1 rfl
      replace M := M.store 1 rfl x.c
      simp only [List.set_cons_zero, List.set_cons_succ] at M
      have HM := Lib.hid M
      clear M
      go_upto_region 7 with (first
        | (refine wpList_store_row rfl 32 (.tmp 5) (.tmp 36) rfl w4.heap.size x.c rfl rfl 32 ez.c r1 (e8_info hx) (by rw [E8.size ez_six, E8.size hx]) (E8.one _) ?_))
      change Code.wp _ _ _ _ ((w4.alloc (.cells ez.c 32)).setRow w4.heap.size x.c)
      have M := HM.out
      clear r1 HM
      generalize (w4.alloc (.cells ez.c 32)).setRow w4.heap.size x.c = W5 at M ⊢
      generalize w4.heap.size = g at M ⊢
      refine wp_region_noPanic ?_
      refine wp_region_flow (fin := ?fin1) 13 0 (by kernel_rfl) [.inl (.int .i64 0),
        .inl (.bool true),
        .inl (.bool true),
        .inl (.agg x.c),
        .inl (.agg x.c),
        .inl (.agg x.c),
        .inl (.bool true),
        .inl (.bool true),
        .inl (.bool true),
        .inl (.agg x.c),
        .inl (.bool true),
        .inl (.bool true),
        .inl (.bool true)] rfl rfl (by kernel_rfl) ?hfin1 ?hE1 ?hend1
      case hfin1 =>
        intro G
        simp only [flowAll, flowVal, Act.put, List.setIfInBounds_toArray, List.set_cons_zero, List.set_cons_succ]
        exact rfl
      case hE1 =>
        intro G
        refine ⟨Or.inr (fun W hB => known_val rfl (by go_simp)),
          Or.inr (fun W hB => known_val rfl (by go_simp)),
          Or.inr (fun W hB => known_val rfl (by go_simp)),
          Or.inr (fun W hB => known_val rfl (by exact exec_load_row 32 (.tmp 5) g ((M.drew.step hB).row 1 rfl) Try.underlying32 rfl (e8_info hx) rfl rfl)),
          Or.inr (fun W hB => known_call 12 #[.agg x.c] (HPL.out W) rfl (by go_simp)),
          Or.inr (fun W hB => known_val rfl (by exact exec_load_row 27 (.tmp 1) w.heap.size ((M.drew.step hB).row 0 rfl) Try.underlying27 rfl (r8_info hx) rfl rfl)),
          Or.inr (fun W hB => known_val rfl (by exact exec_same8 x hx (.tmp 42) (.tmp 43) rfl rfl rfl)),
          Or.inr (fun W hB => known_val rfl (by go_simp)),
          Or.inr (fun W hB => known_val rfl (by go_simp)),
          Or.inr (fun W hB => known_val rfl (by exact exec_load_row 32 (.tmp 5) g ((M.drew.step hB).row 1 rfl) Try.underlying32 rfl (e8_info hx) rfl rfl)),
          Or.inr (fun W hB => known_call 10 #[.agg x.c] (HRT.out W) rfl (by go_simp)),
          Or.inr (fun W hB => known_val rfl (by go_simp)),
          Or.inr (fun W hB => known_val rfl (by go_simp)), trivial⟩
      intro G W hB hM
      replace M := M.drew.step hB
      clear hB hM G
      refine wpAny_end (by kernel_rfl) ?_ _
      refine NoPanic.normal ?_
      go_wp2
      go_ret
      exact ⟨rfl, M.below⟩
    · rw [Bool.not_eq_true] at hr
      unfold printF at hpr
      rw [hr, if_neg (by simp)] at hpr
      rw [hr] at hrt
      have HPR := Lib.hid hpr
      have HRT := Lib.hid hrt
      clear hpr hrt hr
      go_enter Try.func3, Try.ntmps3
      go_wp2_with fail
      generalize w.alloc (.cells x.c 27) = W0 at M ⊢
      refine (HA.out _).mono ?_
      rintro e w1 ⟨rfl, hb1⟩
      replace M := M.step hb1
      clear hb1
      have cb := (M.row 0 rfl).fb hx
      have r0 := M.row 0 rfl
      go_wp2_with (first
        | (refine wpList_load_row rfl 27 (.tmp 1) rfl w.heap.size rfl 27 x.c (0, 0) _ r0 Try.underlying27 rfl (r8_info hx) ?_))
      refine (HO.out _).mono ?_
      rintro e w2 ⟨rfl, hb2⟩
      replace M := M.step hb2
      clear hb2 cb r0
      go_wp2_with fail
      refine (HPR.out _).mono ?_
      rintro e w3 ⟨rfl, hb3⟩
      replace M := M.step hb3
      clear hb3
      have r0 := M.row 0 rfl
      go_wp2_with (first
        | (refine wpList_load_rowG rfl 27 (.tmp 1) rfl w.heap.size rfl 27 x.c (0, 0) _ r0 Try.underlying27 rfl (r8_info hx) ?_)
        | (go_at_call 9; refine (HO.out _).mono ?_; rintro e w4 ⟨rfl, hb4⟩)
        | (go_at_call 10; refine (HRT.out _).mono ?_; rintro e w5 ⟨rfl, hb5⟩))
      go_ret
      exact ⟨rfl, ((M.step hb4).step hb5).below⟩
end Go.Proofs.Ytphdlldmeniihaa
