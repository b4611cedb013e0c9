/- The law BpduPlays: walked. -/
import Derived.Test.YtingcoojhfadgaaZN
namespace Go.Proofs.Ytingcoojhfadgaa
open Go.RowKit
theorem build_mac11 {o : Oper} {ev : Operand → Value} {w : World} (a0 a1 a2 : Operand) (ho : o.op = .build 46 #[(0, a0), (1, a1), (2, a2)]) (h0 : ev a0 = .int .u8 1) (h1 : ev a1 = .int .u8 128) (h2 : ev a2 = .int .u8 194) : (execOp ev o).run Try.prog w = .ok (.value (.agg (bs [1, 128, 194, 0, 0, 0]))) w := by
  refine exec_build 46 _ _ ho ?_
  simp only [List.map_toArray, List.map_cons, List.map_nil, h0, h1, h2]
  kernel_rfl
set_option maxRecDepth 20000 in
set_option maxHeartbeats 2000000 in
theorem plays11_any (s : ByteArray) (x : B11) (hx : x.Fit) (w : World) : Calls Try.prog 6 #[.string s, .agg x.c] w fun e w' => e = .returned (.bool true) ∧ Below w.heap.size w w' := by
  have M : Mem w [(w.heap.size, 24, x.c)] (w.alloc (.cells x.c 24)) := (Mem.init w).alloc _ rfl _ _
  have ha := fun W => awake11_any W
  have HA := Lib.hid ha
  clear ha
  by_cases h0 : 1000 < s.size
  · have h1 : (1000 : Int) < (s.size : Int) := by omega
    go_enter Try.func6, Try.ntmps6
    go_wp2_with fail
    generalize w.alloc (.cells x.c 24) = W0 at M ⊢
    go_wp2_with fail
    refine (HA.out _).mono ?_
    rintro e w1 ⟨rfl, hb1⟩
    replace M := M.step hb1
    clear hb1
    go_wp2_with fail
    refine (HA.out _).mono ?_
    rintro e w2 ⟨rfl, hb2⟩
    replace M := M.step hb2
    clear hb2
    go_wp2
    go_ret
    exact ⟨rfl, M.below⟩
  · have h1 : ¬ (1000 : Int) < (s.size : Int) := by omega
    have hp := fun W => parse11_any s W
    have hq := fun W => refParse11_any s W
    obtain ⟨hX, hV⟩ := parse11_fit s
    obtain ⟨⟨e0, is, X⟩, hps⟩ : ∃ p, parse11 s = p := ⟨_, rfl⟩
    rw [hps] at hp hq hX hV
    simp only at hp hq hX hV
    have HP := Lib.hid hp
    have HQ := Lib.hid hq
    have hof := fun W => of11_any x hx W
    have hpl := fun W => plain11_any X hX W
    have hpr := fun W => print11_any x hx W
    have hri := fun W => right11_any x hx W
    have hle := fun W => less_any x.r x.b hx.r hx.b W
    have hlr := fun W => refLess_any x.r x.b hx.r hx.b W
    have hto := fun W => to11_any W
    generalize lessL x.r x.b = ls at hle hlr
    have HO := Lib.hid hof
    have HL := Lib.hid hpl
    have HLE := Lib.hid hle
    have HLR := Lib.hid hlr
    have HTO := Lib.hid hto
    unfold print11 at hpr
    clear hp hq hps hof hpl hle hlr hto
    by_cases hr : x.right = true
    · rw [if_pos hr] at hpr
      rw [hr] at hri
      have hrp := fun W => refPrint11_any x hx hr W
      have he : ((⟨x.bytes.toArray⟩ : ByteArray).data.toList == (⟨x.bytes.toArray⟩ : ByteArray).data.toList) = true := beq_self_eq_true _
      generalize (⟨x.bytes.toArray⟩ : ByteArray) = T at hpr hrp he
      have HPR := Lib.hid hpr
      have HRI := Lib.hid hri
      have HRP := Lib.hid hrp
      have HE := Lib.hid he
      clear hpr hri hrp he hr
      go_enter Try.func6, Try.ntmps6
      go_wp2_with fail
      generalize w.alloc (.cells x.c 24) = W0 at M ⊢
      go_wp2_with fail
      refine (HA.out _).mono ?_
      rintro e w1 ⟨rfl, hb1⟩
      replace M := M.step hb1
      clear hb1
      go_wp2_with fail
      refine (HP.out _).mono ?_
      rintro e w2 ⟨rfl, hb2⟩
      replace M := M.step hb2
      clear hb2
      replace M := M.alloc _ rfl 28 bz.c
      simp only [List.cons_append, List.nil_append] at M
      have r1 := M.row 1 rfl
      replace M := M.store 1 rfl X.c
      simp only [List.set_cons_zero, List.set_cons_succ] at M
      have HM := Lib.hid M
      clear M
      go_upto_region 4 with (first
        | (refine wpList_store_row rfl 28 (.tmp 5) (.tmp 24) rfl w2.heap.size X.c rfl rfl 28 bz.c r1 (b11_info hX) (by rw [B11.size bz_fit, B11.size hX]) (B11.one _) ?_))
      change Code.wp _ _ _ _ ((w2.alloc (.cells bz.c 28)).setRow w2.heap.size X.c)
      have M := HM.out
      clear r1 HM
      generalize (w2.alloc (.cells bz.c 28)).setRow w2.heap.size X.c = W4 at M ⊢
      generalize w2.heap.size = g1 at M ⊢
      go_wp2_with fail
      refine (HQ.out _).mono ?_
      rintro e w3 ⟨rfl, hb3⟩
      replace M := M.step hb3
      clear hb3
      replace M := M.alloc _ rfl 24 bz.c
      simp only [List.cons_append, List.nil_append] at M
      have r1 := M.row 2 rfl
      replace M := M.store 2 rfl X.c
      simp only [List.set_cons_zero, List.set_cons_succ] at M
      have HM := Lib.hid M
      clear M
      go_upto_region 5 with (first
        | (refine wpList_store_row rfl 24 (.tmp 8) (.tmp 30) rfl w3.heap.size X.c rfl rfl 24 bz.c r1 (r11_info hX) (by rw [B11.size bz_fit, B11.size hX]) (B11.one _) ?_))
      change Code.wp _ _ _ _ ((w3.alloc (.cells bz.c 24)).setRow w3.heap.size X.c)
      have M := HM.out
      clear r1 HM
      generalize (w3.alloc (.cells bz.c 24)).setRow w3.heap.size X.c = W5 at M ⊢
      generalize w3.heap.size = g2 at M ⊢
      have r0 := M.row 0 rfl
      go_wp2_with (first
        | (refine wpList_load_row rfl 24 (.tmp 3) rfl w.heap.size rfl 24 x.c (0, 0) _ r0 Try.underlying24 rfl (r11_info hx) ?_))
      refine (HO.out _).mono ?_
      rintro e w4 ⟨rfl, hb4⟩
      replace M := M.step hb4
      clear hb4
      clear r0
      go_wp2_with fail
      refine (HPR.out _).mono ?_
      rintro e w5 ⟨rfl, hb5⟩
      replace M := M.step hb5
      clear hb5
      go_upto_region 6 with fail
      refine wp_region_noPanic ?_
      refine wp_region_flow (fin := ?fin1) 32 0 (by kernel_rfl) [.inl (.int .i64 e0),
        .inl (.int .i64 e0),
        .inl (.bool false),
        .inl (.bool false),
        .inl (.bool is),
        .inl (.bool is),
        .inl (.bool false),
        .inl (.bool false),
        .inl (.bool false),
        .inl (.agg X.c),
        .inl (.agg X.c),
        .inl (.agg X.c),
        .inl (.bool false),
        .inl (.bool false),
        .inl (.bool false),
        .inl (.pointer (some ⟨w.heap.size, 0, none⟩)),
        .inl (.agg (bs x.r)),
        .inl (.pointer (some ⟨w.heap.size, 8, none⟩)),
        .inl (.agg (bs x.b)),
        .inl (.bool ls),
        .inl (.pointer (some ⟨w.heap.size, 0, none⟩)),
        .inl (.agg (bs x.r)),
        .inl (.pointer (some ⟨w.heap.size, 8, none⟩)),
        .inl (.agg (bs x.b)),
        .inl (.bool ls),
        .inl (.bool false),
        .inl (.bool false),
        .inl (.bool false),
        .inl (.agg (bs [1, 128, 194, 0, 0, 0])),
        .inl (.agg (bs [1, 128, 194, 0, 0, 0])),
        .inl (.bool false),
        .inl (.bool false)] rfl rfl (by kernel_rfl) ?hfin1 ?hE1 ?hend1
      case hfin1 =>
        intro G
        simp only [flowAll, flowVal, Act.put, List.setIfInBounds_toArray, List.set_cons_zero, List.set_cons_succ]
        exact rfl
      case hE1 =>
        intro G
        refine ⟨Or.inr (fun W hB hR => known_val rfl (by go_simp)),
          Or.inr (fun W hB hR => known_val rfl (by go_simp)),
          Or.inr (fun W hB hR => known_val rfl (by go_simp)),
          Or.inr (fun W hB hR => known_val rfl (by go_simp)),
          Or.inr (fun W hB hR => known_val rfl (by go_simp)),
          Or.inr (fun W hB hR => known_val rfl (by go_simp)),
          Or.inr (fun W hB hR => known_val rfl (by go_simp)),
          Or.inr (fun W hB hR => known_val rfl (by go_simp)),
          Or.inr (fun W hB hR => known_val rfl (by go_simp)),
          Or.inr (fun W hB hR => known_val rfl (by exact exec_load_row 28 (.tmp 5) g1 ((M.drew.step hB).row 1 rfl) Try.underlying28 rfl (b11_info hX) rfl rfl)),
          Or.inr (fun W hB hR => known_call 14 #[.agg X.c] (HL.out W) rfl (by go_simp)),
          Or.inr (fun W hB hR => known_val rfl (by exact exec_load_row 24 (.tmp 8) g2 ((M.drew.step hB).row 2 rfl) Try.underlying24 rfl (r11_info hX) rfl rfl)),
          Or.inr (fun W hB hR => known_val rfl (by exact exec_other11r X X hX hV hX hV true (by simp) (.tmp 49) (.tmp 50) rfl rfl rfl)),
          Or.inr (fun W hB hR => known_val rfl (by go_simp)),
          Or.inr (fun W hB hR => known_val rfl (by go_simp)),
          Or.inr (fun W hB hR => known_val rfl (by go_simp)),
          Or.inr (fun W hB hR => known_val rfl (by exact exec11r_r ((M.drew.step hB).row 0 rfl) hx _ rfl rfl)),
          Or.inr (fun W hB hR => known_val rfl (by go_simp)),
          Or.inr (fun W hB hR => known_val rfl (by exact exec11r_b ((M.drew.step hB).row 0 rfl) hx _ rfl rfl)),
          Or.inr (fun W hB hR => known_call 15 #[.agg (bs x.r), .agg (bs x.b)] (HLE.out W) rfl (by go_simp)),
          Or.inr (fun W hB hR => known_val rfl (by go_simp)),
          Or.inr (fun W hB hR => known_val rfl (by exact exec11r_r ((M.drew.step hB).row 0 rfl) hx _ rfl rfl)),
          Or.inr (fun W hB hR => known_val rfl (by go_simp)),
          Or.inr (fun W hB hR => known_val rfl (by exact exec11r_b ((M.drew.step hB).row 0 rfl) hx _ rfl rfl)),
          Or.inr (fun W hB hR => known_call 17 #[.agg (bs x.r), .agg (bs x.b)] (HLR.out W) rfl (by go_simp)),
          Or.inr (fun W hB hR => known_val rfl (by go_simp)),
          Or.inr (fun W hB hR => known_val rfl (by go_simp)),
          Or.inr (fun W hB hR => known_val rfl (by go_simp)),
          Or.inr (fun W hB hR => known_call 18 #[] (HTO.out W) rfl (by go_simp)),
          Or.inr (fun W hB hR => known_val rfl (by exact build_mac11 _ _ _ rfl rfl rfl rfl)),
          Or.inr (fun W hB hR => known_val rfl (by exact exec_neqB 46 6 Try.underlying46 (by kernel_rfl) (.tmp 67) (.tmp 68) [1, 128, 194, 0, 0, 0] [1, 128, 194, 0, 0, 0] rfl rfl rfl rfl rfl)),
          Or.inr (fun W hB hR => known_val rfl (by go_simp)), trivial⟩
      intro G W hB hM
      replace M := M.drew.step hB
      clear hB hM G
      refine wpAny_end (by kernel_rfl) ?_ _
      refine NoPanic.normal ?_
      have r0 := M.row 0 rfl
      go_wp2_with (first
        | (refine wpList_load_row rfl 24 (.tmp 3) rfl w.heap.size rfl 24 x.c (0, 0) _ r0 Try.underlying24 rfl (r11_info hx) ?_))
      refine (HRI.out _).mono ?_
      rintro e w6 ⟨rfl, hb6⟩
      replace M := M.step hb6
      clear hb6
      clear r0
      have r0 := M.row 0 rfl
      go_wp2_with (first
        | (refine wpList_load_rowG (by kernel_rfl) 24 (.tmp 3) rfl w.heap.size rfl 24 x.c (0, 0) _ r0 Try.underlying24 rfl (r11_info hx) ?_))
      refine (HRP.out _).mono ?_
      rintro e w7 ⟨rfl, hb7⟩
      replace M := M.step hb7
      clear hb7
      have HM := Lib.hid M.below
      clear M r0
      go_wp2_with (first
        | (refine wpExecG rfl (.bool true) (exec_eqS (.tmp 83) (.tmp 85) _ _ true HE.out rfl rfl rfl) ?_))
      go_ret
      exact ⟨rfl, HM.out⟩
    · rw [if_neg hr] at hpr
      rw [Bool.not_eq_true] at hr
      rw [hr] at hri
      have HPR := Lib.hid hpr
      have HRI := Lib.hid hri
      clear hpr hri hr
      go_enter Try.func6, Try.ntmps6
      go_wp2_with fail
      generalize w.alloc (.cells x.c 24) = W0 at M ⊢
      go_wp2_with fail
      refine (HA.out _).mono ?_
      rintro e w1 ⟨rfl, hb1⟩
      replace M := M.step hb1
      clear hb1
      go_wp2_with fail
      refine (HP.out _).mono ?_
      rintro e w2 ⟨rfl, hb2⟩
      replace M := M.step hb2
      clear hb2
      replace M := M.alloc _ rfl 28 bz.c
      simp only [List.cons_append, List.nil_append] at M
      have r1 := M.row 1 rfl
      replace M := M.store 1 rfl X.c
      simp only [List.set_cons_zero, List.set_cons_succ] at M
      have HM := Lib.hid M
      clear M
      go_upto_region 4 with (first
        | (refine wpList_store_row rfl 28 (.tmp 5) (.tmp 24) rfl w2.heap.size X.c rfl rfl 28 bz.c r1 (b11_info hX) (by rw [B11.size bz_fit, B11.size hX]) (B11.one _) ?_))
      change Code.wp _ _ _ _ ((w2.alloc (.cells bz.c 28)).setRow w2.heap.size X.c)
      have M := HM.out
      clear r1 HM
      generalize (w2.alloc (.cells bz.c 28)).setRow w2.heap.size X.c = W4 at M ⊢
      generalize w2.heap.size = g1 at M ⊢
      go_wp2_with fail
      refine (HQ.out _).mono ?_
      rintro e w3 ⟨rfl, hb3⟩
      replace M := M.step hb3
      clear hb3
      replace M := M.alloc _ rfl 24 bz.c
      simp only [List.cons_append, List.nil_append] at M
      have r1 := M.row 2 rfl
      replace M := M.store 2 rfl X.c
      simp only [List.set_cons_zero, List.set_cons_succ] at M
      have HM := Lib.hid M
      clear M
      go_upto_region 5 with (first
        | (refine wpList_store_row rfl 24 (.tmp 8) (.tmp 30) rfl w3.heap.size X.c rfl rfl 24 bz.c r1 (r11_info hX) (by rw [B11.size bz_fit, B11.size hX]) (B11.one _) ?_))
      change Code.wp _ _ _ _ ((w3.alloc (.cells bz.c 24)).setRow w3.heap.size X.c)
      have M := HM.out
      clear r1 HM
      generalize (w3.alloc (.cells bz.c 24)).setRow w3.heap.size X.c = W5 at M ⊢
      generalize w3.heap.size = g2 at M ⊢
      have r0 := M.row 0 rfl
      go_wp2_with (first
        | (refine wpList_load_row rfl 24 (.tmp 3) rfl w.heap.size rfl 24 x.c (0, 0) _ r0 Try.underlying24 rfl (r11_info hx) ?_))
      refine (HO.out _).mono ?_
      rintro e w4 ⟨rfl, hb4⟩
      replace M := M.step hb4
      clear hb4
      clear r0
      go_wp2_with fail
      refine (HPR.out _).mono ?_
      rintro e w5 ⟨rfl, hb5⟩
      replace M := M.step hb5
      clear hb5
      go_upto_region 6 with fail
      refine wp_region_noPanic ?_
      refine wp_region_flow (fin := ?fin2) 32 0 (by kernel_rfl) [.inl (.int .i64 e0),
        .inl (.int .i64 e0),
        .inl (.bool false),
        .inl (.bool false),
        .inl (.bool is),
        .inl (.bool is),
        .inl (.bool false),
        .inl (.bool false),
        .inl (.bool false),
        .inl (.agg X.c),
        .inl (.agg X.c),
        .inl (.agg X.c),
        .inl (.bool false),
        .inl (.bool false),
        .inl (.bool false),
        .inl (.pointer (some ⟨w.heap.size, 0, none⟩)),
        .inl (.agg (bs x.r)),
        .inl (.pointer (some ⟨w.heap.size, 8, none⟩)),
        .inl (.agg (bs x.b)),
        .inl (.bool ls),
        .inl (.pointer (some ⟨w.heap.size, 0, none⟩)),
        .inl (.agg (bs x.r)),
        .inl (.pointer (some ⟨w.heap.size, 8, none⟩)),
        .inl (.agg (bs x.b)),
        .inl (.bool ls),
        .inl (.bool false),
        .inl (.bool false),
        .inl (.bool false),
        .inl (.agg (bs [1, 128, 194, 0, 0, 0])),
        .inl (.agg (bs [1, 128, 194, 0, 0, 0])),
        .inl (.bool false),
        .inl (.bool false)] rfl rfl (by kernel_rfl) ?hfin2 ?hE2 ?hend2
      case hfin2 =>
        intro G
        simp only [flowAll, flowVal, Act.put, List.setIfInBounds_toArray, List.set_cons_zero, List.set_cons_succ]
        exact rfl
      case hE2 =>
        intro G
        refine ⟨Or.inr (fun W hB hR => known_val rfl (by go_simp)),
          Or.inr (fun W hB hR => known_val rfl (by go_simp)),
          Or.inr (fun W hB hR => known_val rfl (by go_simp)),
          Or.inr (fun W hB hR => known_val rfl (by go_simp)),
          Or.inr (fun W hB hR => known_val rfl (by go_simp)),
          Or.inr (fun W hB hR => known_val rfl (by go_simp)),
          Or.inr (fun W hB hR => known_val rfl (by go_simp)),
          Or.inr (fun W hB hR => known_val rfl (by go_simp)),
          Or.inr (fun W hB hR => known_val rfl (by go_simp)),
          Or.inr (fun W hB hR => known_val rfl (by exact exec_load_row 28 (.tmp 5) g1 ((M.drew.step hB).row 1 rfl) Try.underlying28 rfl (b11_info hX) rfl rfl)),
          Or.inr (fun W hB hR => known_call 14 #[.agg X.c] (HL.out W) rfl (by go_simp)),
          Or.inr (fun W hB hR => known_val rfl (by exact exec_load_row 24 (.tmp 8) g2 ((M.drew.step hB).row 2 rfl) Try.underlying24 rfl (r11_info hX) rfl rfl)),
          Or.inr (fun W hB hR => known_val rfl (by exact exec_other11r X X hX hV hX hV true (by simp) (.tmp 49) (.tmp 50) rfl rfl rfl)),
          Or.inr (fun W hB hR => known_val rfl (by go_simp)),
          Or.inr (fun W hB hR => known_val rfl (by go_simp)),
          Or.inr (fun W hB hR => known_val rfl (by go_simp)),
          Or.inr (fun W hB hR => known_val rfl (by exact exec11r_r ((M.drew.step hB).row 0 rfl) hx _ rfl rfl)),
          Or.inr (fun W hB hR => known_val rfl (by go_simp)),
          Or.inr (fun W hB hR => known_val rfl (by exact exec11r_b ((M.drew.step hB).row 0 rfl) hx _ rfl rfl)),
          Or.inr (fun W hB hR => known_call 15 #[.agg (bs x.r), .agg (bs x.b)] (HLE.out W) rfl (by go_simp)),
          Or.inr (fun W hB hR => known_val rfl (by go_simp)),
          Or.inr (fun W hB hR => known_val rfl (by exact exec11r_r ((M.drew.step hB).row 0 rfl) hx _ rfl rfl)),
          Or.inr (fun W hB hR => known_val rfl (by go_simp)),
          Or.inr (fun W hB hR => known_val rfl (by exact exec11r_b ((M.drew.step hB).row 0 rfl) hx _ rfl rfl)),
          Or.inr (fun W hB hR => known_call 17 #[.agg (bs x.r), .agg (bs x.b)] (HLR.out W) rfl (by go_simp)),
          Or.inr (fun W hB hR => known_val rfl (by go_simp)),
          Or.inr (fun W hB hR => known_val rfl (by go_simp)),
          Or.inr (fun W hB hR => known_val rfl (by go_simp)),
          Or.inr (fun W hB hR => known_call 18 #[] (HTO.out W) rfl (by go_simp)),
          Or.inr (fun W hB hR => known_val rfl (by exact build_mac11 _ _ _ rfl rfl rfl rfl)),
          Or.inr (fun W hB hR => known_val rfl (by exact exec_neqB 46 6 Try.underlying46 (by kernel_rfl) (.tmp 67) (.tmp 68) [1, 128, 194, 0, 0, 0] [1, 128, 194, 0, 0, 0] rfl rfl rfl rfl rfl)),
          Or.inr (fun W hB hR => known_val rfl (by go_simp)), trivial⟩
      intro G W hB hM
      replace M := M.drew.step hB
      clear hB hM G
      refine wpAny_end (by kernel_rfl) ?_ _
      refine NoPanic.normal ?_
      have r0 := M.row 0 rfl
      go_wp2_with (first
        | (refine wpList_load_row rfl 24 (.tmp 3) rfl w.heap.size rfl 24 x.c (0, 0) _ r0 Try.underlying24 rfl (r11_info hx) ?_))
      refine (HRI.out _).mono ?_
      rintro e w6 ⟨rfl, hb6⟩
      replace M := M.step hb6
      clear hb6
      clear r0
      have HM := Lib.hid M.below
      clear M
      go_wp2
      go_ret
      exact ⟨rfl, HM.out⟩
end Go.Proofs.Ytingcoojhfadgaa
