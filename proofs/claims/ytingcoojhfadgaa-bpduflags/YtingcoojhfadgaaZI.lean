/- The law BpduBack: walked. -/
import Derived.Test.YtingcoojhfadgaaZH
namespace Go.Proofs.Ytingcoojhfadgaa
open Go.RowKit
theorem size38 {x : B11} (h : x.Fit) : (⟨x.bytes.toArray⟩ : ByteArray).size = 38 := by rw [str_size, B11.bytes_length h]
set_option maxRecDepth 20000 in
set_option maxHeartbeats 2000000 in
theorem back11_any (x : B11) (hx : x.Fit) (hw : x.Wf) (more : ByteArray) (w : World) : Calls Try.prog 3 #[.agg x.c, .string more] w fun e w' => e = .returned (.bool true) ∧ Below w.heap.size w w' := by
  have M : Mem w [(w.heap.size, 24, x.c)] (w.alloc (.cells x.c 24)) := (Mem.init w).alloc _ rfl _ _
  have ha := fun W => awake11_any W
  have HA := Lib.hid ha
  clear ha
  by_cases h0 : 1000 < more.size
  · have h1 : (1000 : Int) < (more.size : Int) := by omega
    go_enter Try.func3, Try.ntmps3
    go_wp2_with fail
    generalize w.alloc (.cells x.c 24) = W0 at M ⊢
    go_wp2_with fail
    refine (HA.out _).mono ?_
    rintro e w1 ⟨rfl, hb1⟩
    replace M := M.step hb1
    clear hb1
    go_wp2_with fail
    refine (HA.out _).mono ?_
    rintro e w2 ⟨rfl, hb2⟩
    replace M := M.step hb2
    clear hb2
    go_wp2
    go_ret
    exact ⟨rfl, M.below⟩
  · have h1 : ¬ (1000 : Int) < (more.size : Int) := by omega
    have hn := fun W => notice_any W
    have hp0 := fun W => parse11_any ⟨(noticeL ++ more.data.toList).toArray⟩ W
    rw [parse11_notice more.data.toList] at hp0
    have hcat0 := cat_more noticeL more
    have hnl : (⟨noticeL.toArray⟩ : ByteArray).size = 7 := rfl
    generalize (⟨(noticeL ++ more.data.toList).toArray⟩ : ByteArray) = S0 at hp0 hcat0
    generalize (⟨noticeL.toArray⟩ : ByteArray) = NT at hn hcat0 hnl
    have HN := Lib.hid hn
    have HP0 := Lib.hid hp0
    have HC0 := Lib.hid (And.intro hcat0 (show ¬ (9223372036854775807 < NT.size + more.size) by omega))
    have hof := fun W => of11_any x hx W
    have hpr := fun W => print11_any x hx W
    unfold print11 at hpr
    have HO := Lib.hid hof
    clear hn hp0 hcat0 hnl hof
    by_cases hr : x.right = true
    · rw [if_pos hr] at hpr
      have hps := fun W => parse11_any (⟨x.bytes.toArray⟩ ++ more) W
      have hcat := cat_more x.bytes more
      rw [hcat, parse11_print hx hr] at hps
      have hsz := size38 hx
      have hpl := fun W => plain11_any x hx W
      have HPR := Lib.hid hpr
      have HPS := Lib.hid hps
      have HPL := Lib.hid hpl
      clear hpr hps hpl hr
      generalize (⟨(x.bytes ++ more.data.toList).toArray⟩ : ByteArray) = S at hcat HPS
      generalize (⟨x.bytes.toArray⟩ : ByteArray) = T at hcat HPR hsz
      have HT := Lib.hid (show ((T.size : Int) == 38) = true by rw [hsz]; rfl)
      have HC := Lib.hid (And.intro hcat (show ¬ (9223372036854775807 < T.size + more.size) by omega))
      clear hcat hsz
      go_enter Try.func3, Try.ntmps3
      go_wp2_with fail
      generalize w.alloc (.cells x.c 24) = W0 at M ⊢
      go_wp2_with fail
      refine (HA.out _).mono ?_
      rintro e w1 ⟨rfl, hb1⟩
      replace M := M.step hb1
      clear hb1
      go_wp2_with fail
      refine (HN.out _).mono ?_
      rintro e w2 ⟨rfl, rfl⟩
      go_wp2_with (first
        | (refine wpExec rfl (.string S0) (exec_cat (.tmp 22) (.tmp 23) _ _ _ HC0.out.1 HC0.out.2 rfl rfl rfl) ?_))
      refine (HP0.out _).mono ?_
      rintro e w3 ⟨rfl, hb3⟩
      replace M := M.step hb3
      clear hb3
      replace M := M.alloc _ rfl 28 bz.c
      simp only [List.cons_append, List.nil_append] at M
      have r1 := M.row 1 rfl
      replace M := M.store 1 rfl bz.c
      simp only [List.set_cons_zero, List.set_cons_succ] at M
      have HM := Lib.hid M
      clear M
      go_upto_region 4 with (first
        | (refine wpList_store_row rfl 28 (.tmp 5) (.tmp 26) rfl w3.heap.size bz.c rfl rfl 28 bz.c r1 (b11_info bz_fit) rfl (B11.one _) ?_))
      change Code.wp _ _ _ _ ((w3.alloc (.cells bz.c 28)).setRow w3.heap.size bz.c)
      have M := HM.out
      clear r1 HM
      generalize (w3.alloc (.cells bz.c 28)).setRow w3.heap.size bz.c = W4 at M ⊢
      generalize w3.heap.size = g1 at M ⊢
      have r0 := M.row 0 rfl
      go_wp2_with (first
        | (refine wpList_load_row rfl 24 (.tmp 2) rfl w.heap.size rfl 24 x.c (0, 0) _ r0 Try.underlying24 rfl (r11_info hx) ?_))
      refine (HO.out _).mono ?_
      rintro e w4 ⟨rfl, hb4⟩
      replace M := M.step hb4
      clear hb4
      clear r0
      go_wp2_with fail
      refine (HPR.out _).mono ?_
      rintro e w5 ⟨rfl, hb5⟩
      replace M := M.step hb5
      clear hb5
      go_wp2_with (first
        | (refine wpExec rfl (.string S) (exec_cat (.tmp 51) (.tmp 52) _ _ _ HC.out.1 HC.out.2 rfl rfl rfl) ?_))
      refine (HPS.out _).mono ?_
      rintro e w6 ⟨rfl, hb6⟩
      replace M := M.step hb6
      clear hb6
      replace M := M.alloc _ rfl 28 bz.c
      simp only [List.cons_append, List.nil_append] at M
      have r1 := M.row 2 rfl
      replace M := M.store 2 rfl x.c
      simp only [List.set_cons_zero, List.set_cons_succ] at M
      have HM := Lib.hid M
      clear M
      go_upto_region 10 with (first
        | (refine wpList_store_row rfl 28 (.tmp 10) (.tmp 55) rfl w6.heap.size x.c rfl rfl 28 bz.c r1 (b11_info hx) (by rw [B11.size bz_fit, B11.size hx]) (B11.one _) ?_))
      change Code.wp _ _ _ _ ((w6.alloc (.cells bz.c 28)).setRow w6.heap.size x.c)
      have M := HM.out
      clear r1 HM
      generalize (w6.alloc (.cells bz.c 28)).setRow w6.heap.size x.c = W5 at M ⊢
      generalize w6.heap.size = g at M ⊢
      refine wp_region_noPanic ?_
      refine wp_region_flow (fin := ?fin1) 18 0 (by kernel_rfl) [.inl (.int .i64 0),
        .inl (.bool true),
        .inl (.bool true),
        .inl (.bool false),
        .inl (.bool true),
        .inl (.bool true),
        .inl (.bool true),
        .inl (.agg x.c),
        .inl (.agg x.c),
        .inl (.agg x.c),
        .inl (.bool true),
        .inl (.bool true),
        .inl (.bool true),
        .inl (.string T),
        .inl (.int .i64 (T.size : Int)),
        .inl (.bool true),
        .inl (.bool true),
        .inl (.bool true)] rfl rfl (by kernel_rfl) ?hfin1 ?hE1 ?hend1
      case hfin1 =>
        intro G
        simp only [flowAll, flowVal, Act.put, List.setIfInBounds_toArray, List.set_cons_zero, List.set_cons_succ]
        exact rfl
      case hE1 =>
        intro G
        refine ⟨Or.inr (fun W hB hR => known_val rfl (by go_simp)),
          Or.inr (fun W hB hR => known_val rfl (by go_simp)),
          Or.inr (fun W hB hR => known_val rfl (by go_simp)),
          Or.inr (fun W hB hR => known_val rfl (by go_simp)),
          Or.inr (fun W hB hR => known_val rfl (by go_simp)),
          Or.inr (fun W hB hR => known_val rfl (by go_simp)),
          Or.inr (fun W hB hR => known_val rfl (by go_simp)),
          Or.inr (fun W hB hR => known_val rfl (by exact exec_load_row 28 (.tmp 10) g ((M.drew.step hB).row 2 rfl) Try.underlying28 rfl (b11_info hx) rfl rfl)),
          Or.inr (fun W hB hR => known_call 14 #[.agg x.c] (HPL.out W) rfl (by go_simp)),
          Or.inr (fun W hB hR => known_val rfl (by exact exec_load_row 24 (.tmp 2) w.heap.size ((M.drew.step hB).row 0 rfl) Try.underlying24 rfl (r11_info hx) rfl rfl)),
          Or.inr (fun W hB hR => known_val rfl (by exact exec_same11r x x hx hw hx hw true (by simp) (.tmp 66) (.tmp 67) rfl rfl rfl)),
          Or.inr (fun W hB hR => known_val rfl (by go_simp)),
          Or.inr (fun W hB hR => known_val rfl (by go_simp)),
          Or.inr (fun W hB hR => known_val rfl (by go_simp)),
          Or.inr (fun W hB hR => known_val rfl (by go_simp)),
          Or.inr (fun W hB hR => known_val rfl (by have h9 := HT.out; go_simp)),
          Or.inr (fun W hB hR => known_val rfl (by go_simp)),
          Or.inr (fun W hB hR => known_val rfl (by go_simp)), trivial⟩
      intro G W hB hM
      replace M := M.drew.step hB
      clear hB hM G
      refine wpAny_end (by kernel_rfl) ?_ _
      refine NoPanic.normal ?_
      go_wp2
      go_ret
      exact ⟨rfl, M.below⟩
    · rw [if_neg hr] at hpr
      rw [Bool.not_eq_true] at hr
      have hri := fun W => right11_any x hx W
      rw [hr] at hri
      have HPR := Lib.hid hpr
      have HRI := Lib.hid hri
      clear hpr hr hri
      go_enter Try.func3, Try.ntmps3
      go_wp2_with fail
      generalize w.alloc (.cells x.c 24) = W0 at M ⊢
      go_wp2_with fail
      refine (HA.out _).mono ?_
      rintro e w1 ⟨rfl, hb1⟩
      replace M := M.step hb1
      clear hb1
      go_wp2_with fail
      refine (HN.out _).mono ?_
      rintro e w2 ⟨rfl, rfl⟩
      go_wp2_with (first
        | (refine wpExec rfl (.string S0) (exec_cat (.tmp 22) (.tmp 23) _ _ _ HC0.out.1 HC0.out.2 rfl rfl rfl) ?_))
      refine (HP0.out _).mono ?_
      rintro e w3 ⟨rfl, hb3⟩
      replace M := M.step hb3
      clear hb3
      replace M := M.alloc _ rfl 28 bz.c
      simp only [List.cons_append, List.nil_append] at M
      have r1 := M.row 1 rfl
      replace M := M.store 1 rfl bz.c
      simp only [List.set_cons_zero, List.set_cons_succ] at M
      have HM := Lib.hid M
      clear M
      go_upto_region 4 with (first
        | (refine wpList_store_row rfl 28 (.tmp 5) (.tmp 26) rfl w3.heap.size bz.c rfl rfl 28 bz.c r1 (b11_info bz_fit) rfl (B11.one _) ?_))
      change Code.wp _ _ _ _ ((w3.alloc (.cells bz.c 28)).setRow w3.heap.size bz.c)
      have M := HM.out
      clear r1 HM
      generalize (w3.alloc (.cells bz.c 28)).setRow w3.heap.size bz.c = W4 at M ⊢
      generalize w3.heap.size = g1 at M ⊢
      have r0 := M.row 0 rfl
      go_wp2_with (first
        | (refine wpList_load_row rfl 24 (.tmp 2) rfl w.heap.size rfl 24 x.c (0, 0) _ r0 Try.underlying24 rfl (r11_info hx) ?_))
      refine (HO.out _).mono ?_
      rintro e w4 ⟨rfl, hb4⟩
      replace M := M.step hb4
      clear hb4
      clear r0
      go_wp2_with fail
      refine (HPR.out _).mono ?_
      rintro e w5 ⟨rfl, hb5⟩
      replace M := M.step hb5
      clear hb5
      have r0 := M.row 0 rfl
      have HM := Lib.hid M
      clear M
      go_wp2_with (first
        | (refine wpList_load_rowG (by kernel_rfl) 24 (.tmp 2) rfl w.heap.size rfl 24 x.c (0, 0) _ r0 Try.underlying24 rfl (r11_info hx) ?_))
      refine (HRI.out _).mono ?_
      rintro e w9 ⟨rfl, hb9⟩
      go_wp2
      go_ret
      exact ⟨rfl, (HM.out.step hb9).below⟩
end Go.Proofs.Ytingcoojhfadgaa
