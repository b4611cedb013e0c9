/- The law EtherCut: walked. -/
import Derived.Test.YtphdlldmeniihaaVN
namespace Go.Proofs.Ytphdlldmeniihaa
open Go.RowKit
set_option maxRecDepth 20000 in
set_option maxHeartbeats 1000000 in
/-- a frame that is not right -/
theorem cut8_no (x : E8) (hx : x.Six) (hr : x.right = false) (c : Int) (w : World) : Calls Try.prog 6 #[.agg x.c, .int .u16 c] w fun e w' => e = .returned (.bool true) ∧ Below w.heap.size w w' := by
  have M : Mem w [(w.heap.size, 27, x.c)] (w.alloc (.cells x.c 27)) := (Mem.init w).alloc _ rfl _ _
  have ha := fun W => awake_any W
  have hof := fun W => of_any x hx W
  have hpr := fun W => print_any x hx W
  unfold printF at hpr
  rw [hr, if_neg (by simp)] at hpr
  have HA := Lib.hid ha
  have HO := Lib.hid hof
  have HPR := Lib.hid hpr
  have r0 := M.row 0 rfl
  have HM := Lib.hid M
  clear ha hof hpr hr M
  go_enter Try.func6, Try.ntmps6
  go_wp2_with (first
    | (refine wpList_load_row rfl 27 (.tmp 2) rfl w.heap.size rfl 27 x.c (0, 0) _ r0 Try.underlying27 rfl (r8_info hx) ?_))
  have M := HM.out
  clear HM r0
  generalize w.alloc (.cells x.c 27) = W0 at M ⊢
  refine (HO.out _).mono ?_
  rintro e w1 ⟨rfl, hb1⟩
  replace M := M.step hb1
  clear hb1
  go_wp2_with fail
  refine (HPR.out _).mono ?_
  rintro e w2 ⟨rfl, hb2⟩
  replace M := M.step hb2
  clear hb2
  go_wp2_with fail
  refine (HA.out _).mono ?_
  rintro e w3 ⟨rfl, hb3⟩
  replace M := M.step hb3
  clear hb3
  go_wp2_with fail
  refine (HA.out _).mono ?_
  rintro e w4 ⟨rfl, hb4⟩
  replace M := M.step hb4
  clear hb4
  go_wp2
  go_ret
  exact ⟨rfl, M.below⟩
set_option maxRecDepth 20000 in
set_option maxHeartbeats 1000000 in
/-- a frame that is right: T its bytes, of L; R what is parsed of the first n of them -/
theorem cut8_yes (x : E8) (hx : x.Six) (hr : x.right = true) (c n L : Nat) (T : ByteArray) (hT : (⟨x.bytes.toArray⟩ : ByteArray) = T) (hL : T.size = L) (hL0 : 14 ≤ L) (hn : c % L = n) (hc : c < 65536) (R : Int × E8) (hR : ∀ W, Calls Try.prog 11 #[.string (T.extract 0 n)] W fun e w' => e = .returned (.tuple #[.agg R.2.c, .int .i64 R.1]) ∧ Below W.heap.size W w') (hs : R.2.Six)
    (hv : x.v = -1 ∨ 0 ≤ x.v) (m : Nat) (hm : n - x.head = m) (B : ByteArray) (hB : x.b.extract 0 m = B) (hcase : ((x.k = 0 ∨ n < x.head) ∧ R = (2, ez)) ∨ (x.k ≠ 0 ∧ x.head ≤ n ∧ n ≤ x.head + x.b.size ∧ R = (0, E8.mk x.d x.s x.k B x.v x.p))) (w : World) :
    Calls Try.prog 6 #[.agg x.c, .int .u16 (c : Int)] w fun e w' => e = .returned (.bool true) ∧ Below w.heap.size w w' := by
  have M : Mem w [(w.heap.size, 27, x.c)] (w.alloc (.cells x.c 27)) := (Mem.init w).alloc _ rfl _ _
  have ha := fun W => awake_any W
  have hof := fun W => of_any x hx W
  have hpr := fun W => print_any x hx W
  unfold printF at hpr
  rw [if_pos hr, hT] at hpr
  have HA := Lib.hid ha
  have HO := Lib.hid hof
  have HPR := Lib.hid hpr
  have HR := Lib.hid hR
  have r0 := M.row 0 rfl
  have HM := Lib.hid M
  have hL1 : ¬ (L : Int) = 0 := by omega
  have hmod : (wrap64 (c : Int)).tmod (L : Int) = (n : Int) := by rw [show wrap64 (c : Int) = (c : Int) from by unfold wrap64; omega, Int.tmod_eq_emod_of_nonneg (by omega)]; omega
  have hnL : n < L := by rw [← hn]; exact Nat.mod_lt _ (by omega)
  have hnL2 : (n : Int) ≤ (L : Int) := by omega
  have hn6 : n < 65536 := by rw [← hn]; exact Nat.lt_of_le_of_lt (Nat.mod_le _ _) hc
  have HX := Lib.hid hn6
  have HMB := Lib.hid (And.intro hm hB)
  have HCASE := Lib.hid hcase
  clear ha hof hpr hr M hR hn hnL hT hcase hL0 hc hn6 hm hB
  go_enter Try.func6, Try.ntmps6
  go_wp2_with (first
    | (refine wpList_load_row rfl 27 (.tmp 2) rfl w.heap.size rfl 27 x.c (0, 0) _ r0 Try.underlying27 rfl (r8_info hx) ?_))
  have M := HM.out
  clear HM r0
  generalize w.alloc (.cells x.c 27) = W0 at M ⊢
  refine (HO.out _).mono ?_
  rintro e w1 ⟨rfl, hb1⟩
  replace M := M.step hb1
  clear hb1
  go_wp2_with fail
  refine (HPR.out _).mono ?_
  rintro e w2 ⟨rfl, hb2⟩
  replace M := M.step hb2
  clear hb2
  go_wp2_with fail
  refine (HA.out _).mono ?_
  rintro e w3 ⟨rfl, hb3⟩
  replace M := M.step hb3
  clear hb3
  go_wp2_with fail
  refine (HR.out _).mono ?_
  rintro e w4 ⟨rfl, hb4⟩
  replace M := M.step hb4
  clear hb4 HO HPR HA HR hmod hL1 hnL2
  replace M := M.alloc _ rfl 32 ez.c
  simp only [List.cons_append, List.nil_append] at M
  have r1 := M.row 1 rfl
  replace M := M.store 1 rfl R.2.c
  simp only [List.set_cons_zero, List.set_cons_succ] at M
  have HM := Lib.hid M
  clear M
  rcases HCASE.out with ⟨hc1, rfl⟩ | ⟨hk, hh, hh2, rfl⟩
  · have i1 := HM.out.row 1 rfl
    have ck := (HM.out.row 0 rfl).fk hx
    have cv := (HM.out.row 0 rfl).fv hx
    clear HCASE hs
    by_cases hk : x.k = 0
    · rw [hk] at ck
      clear hk
      rcases hv with hv | hv
      · rw [hv] at cv
        clear hv hc1
        go_upto_region 6 with (first
          | (refine wpList_store_row rfl 32 (.tmp 8) (.tmp 34) rfl w4.heap.size ez.c rfl rfl 32 ez.c r1 (e8_info ez_six) rfl (E8.one _) ?_))
        change Code.wp _ _ _ _ ((w4.alloc (.cells ez.c 32)).setRow w4.heap.size ez.c)
        have M := HM.out
        clear r1 HM
        generalize (w4.alloc (.cells ez.c 32)).setRow w4.heap.size ez.c = W5 at M i1 ck cv ⊢
        generalize w4.heap.size = g at M i1 ⊢
        go_wp2_with (first
          | (refine wpList_load_rowG rfl 32 (.tmp 8) rfl g rfl 32 ez.c (0, 0) _ i1 Try.underlying32 rfl (e8_info ez_six) ?_)
          | (refine wpExecG rfl (.bool true) (exec_same ez ez_six (.tmp 51) (.tmp 52) rfl rfl rfl) ?_))
        go_ret
        exact ⟨rfl, M.below⟩
      · clear hc1
        go_upto_region 6 with (first
          | (refine wpList_store_row rfl 32 (.tmp 8) (.tmp 34) rfl w4.heap.size ez.c rfl rfl 32 ez.c r1 (e8_info ez_six) rfl (E8.one _) ?_))
        change Code.wp _ _ _ _ ((w4.alloc (.cells ez.c 32)).setRow w4.heap.size ez.c)
        have M := HM.out
        clear r1 HM
        generalize (w4.alloc (.cells ez.c 32)).setRow w4.heap.size ez.c = W5 at M i1 ck cv ⊢
        generalize w4.heap.size = g at M i1 ⊢
        go_wp2_with (first
          | (refine wpList_load_rowG rfl 32 (.tmp 8) rfl g rfl 32 ez.c (0, 0) _ i1 Try.underlying32 rfl (e8_info ez_six) ?_)
          | (refine wpExecG rfl (.bool true) (exec_same ez ez_six (.tmp 51) (.tmp 52) rfl rfl rfl) ?_))
        go_ret
        exact ⟨rfl, M.below⟩
    · rcases hv with hv | hv
      · rw [hv] at cv
        have hn : (n : Int) < 14 := by
          have : x.head = 14 := by unfold E8.head; rw [if_pos hv]
          rcases hc1 with h | h
          · exact absurd h hk
          · omega
        clear hc1 hv
        go_upto_region 6 with (first
          | (refine wpList_store_row rfl 32 (.tmp 8) (.tmp 34) rfl w4.heap.size ez.c rfl rfl 32 ez.c r1 (e8_info ez_six) rfl (E8.one _) ?_))
        change Code.wp _ _ _ _ ((w4.alloc (.cells ez.c 32)).setRow w4.heap.size ez.c)
        have M := HM.out
        clear r1 HM
        generalize (w4.alloc (.cells ez.c 32)).setRow w4.heap.size ez.c = W5 at M i1 ck cv ⊢
        generalize w4.heap.size = g at M i1 ⊢
        go_wp2_with (first
          | (refine wpList_load_rowG rfl 32 (.tmp 8) rfl g rfl 32 ez.c (0, 0) _ i1 Try.underlying32 rfl (e8_info ez_six) ?_)
          | (refine wpExecG rfl (.bool true) (exec_same ez ez_six (.tmp 51) (.tmp 52) rfl rfl rfl) ?_))
        go_ret
        exact ⟨rfl, M.below⟩
      · have hn : (n : Int) < 18 := by
          have : x.head = 18 := by unfold E8.head; rw [if_neg (by omega)]
          rcases hc1 with h | h
          · exact absurd h hk
          · omega
        clear hc1
        go_upto_region 6 with (first
          | (refine wpList_store_row rfl 32 (.tmp 8) (.tmp 34) rfl w4.heap.size ez.c rfl rfl 32 ez.c r1 (e8_info ez_six) rfl (E8.one _) ?_))
        change Code.wp _ _ _ _ ((w4.alloc (.cells ez.c 32)).setRow w4.heap.size ez.c)
        have M := HM.out
        clear r1 HM
        generalize (w4.alloc (.cells ez.c 32)).setRow w4.heap.size ez.c = W5 at M i1 ck cv ⊢
        generalize w4.heap.size = g at M i1 ⊢
        go_wp2_with (first
          | (refine wpList_load_rowG rfl 32 (.tmp 8) rfl g rfl 32 ez.c (0, 0) _ i1 Try.underlying32 rfl (e8_info ez_six) ?_)
          | (refine wpExecG rfl (.bool true) (exec_same ez ez_six (.tmp 51) (.tmp 52) rfl rfl rfl) ?_))
        go_ret
        exact ⟨rfl, M.below⟩
  · have i1 := HM.out.row 1 rfl
    have hm := HMB.out.1
    have hB := HMB.out.2
    clear HCASE HMB
    rcases hv with hv | hv
    · have HVK := Lib.hid hv
      have hd : x.head = 14 := by unfold E8.head; rw [if_pos hv]
      have hn : decide ((n : Int) < 14) = false := by simp; omega
      have hkb : (x.k == 0) = false := by simp; exact hk
      have hsub : IntKind.i64.wrap ((n : Int) - 14) = (m : Int) ∧ (m : Int) ≤ (x.b.size : Int) ∧ x.b.extract 0 m = B := ⟨by have := HX.out; rw [IntWalk.i64_in _ (by omega)]; omega, by omega, hB⟩
      have HSUB := Lib.hid hsub
      clear hsub hm hB hh hh2 hd hv
      go_upto_region 6 with (first
        | (refine wpList_store_row rfl 32 (.tmp 8) (.tmp 34) rfl w4.heap.size (E8.mk x.d x.s x.k B x.v x.p).c rfl rfl 32 ez.c r1 (e8_info hs) (ez_size hs) (E8.one _) ?_))
      change Code.wp _ _ _ _ ((w4.alloc (.cells ez.c 32)).setRow w4.heap.size (E8.mk x.d x.s x.k B x.v x.p).c)
      have M : Mem w [(w.heap.size, 27, x.c), (w4.heap.size, 32, (E8.mk x.d x.s x.k B x.v x.p).c)] ((w4.alloc (.cells ez.c 32)).setRow w4.heap.size (E8.mk x.d x.s x.k B x.v x.p).c) := HM.out
      clear r1 HM i1
      generalize (w4.alloc (.cells ez.c 32)).setRow w4.heap.size (E8.mk x.d x.s x.k B x.v x.p).c = W5 at M ⊢
      generalize w4.heap.size = g at M ⊢
      have ck := (M.row 0 rfl).fk hx
      have cv := (M.row 0 rfl).fv hx
      rw [HVK.out] at cv
      go_upto_region 11 with fail
      clear ck cv
      refine wp_region_noPanic ?_
      refine wp_region_flow (fin := ?fin1) 25 0 (by kernel_rfl) [.inl (.int .i64 0),
        .inl (.bool true),
        .inl (.bool true),
        .inl (.pointer (some ⟨g, 0, none⟩)),
        .inl (.pointer (some ⟨g, 13, none⟩)),
        .inl (.string B),
        .inl (.pointer (some ⟨w.heap.size, 0, none⟩)),
        .inl (.pointer (some ⟨w.heap.size, 13, none⟩)),
        .inl (.string x.b),
        .inl (.int .i64 (n : Int)),
        .inl (.int .i64 14),
        .inl (.int .i64 (m : Int)),
        .inl (.string B),
        .inl (.bool true),
        .inl (.bool true),
        .inl (.bool true),
        .inl (.pointer (some ⟨g, 0, none⟩)),
        .inl (.pointer (some ⟨g, 12, none⟩)),
        .inl (.int .i64 x.k),
        .inl (.pointer (some ⟨w.heap.size, 0, none⟩)),
        .inl (.pointer (some ⟨w.heap.size, 12, none⟩)),
        .inl (.int .i64 x.k),
        .inl (.bool true),
        .inl (.bool true),
        .inl (.bool true)] rfl rfl (by kernel_rfl) ?hfin1 ?hE1 ?hend1
      case hfin1 =>
        intro G
        simp only [flowAll, flowVal, Act.put, List.setIfInBounds_toArray, List.set_cons_zero, List.set_cons_succ]
        exact rfl
      case hE1 =>
        intro G
        refine ⟨Or.inr (fun W hB => known_val rfl (by go_simp)),
          Or.inr (fun W hB => known_val rfl (by go_simp)),
          Or.inr (fun W hB => known_val rfl (by go_simp)),
          Or.inr (fun W hB => known_val rfl (by go_simp)),
          Or.inr (fun W hB => known_val rfl (by go_simp)),
          Or.inr (fun W hB => known_val rfl (by have := ((M.drew.step hB).row 1 rfl).fb hs; go_simp)),
          Or.inr (fun W hB => known_val rfl (by go_simp)),
          Or.inr (fun W hB => known_val rfl (by go_simp)),
          Or.inr (fun W hB => known_val rfl (by have := ((M.drew.step hB).row 0 rfl).fb hx; go_simp)),
          Or.inr (fun W hB => known_val rfl (by go_simp)),
          Or.inr (fun W hB => known_val rfl (by go_simp)),
          Or.inr (fun W hB => known_val rfl (by have := HSUB.out.1; go_simp)),
          Or.inr (fun W hB => known_val rfl (by have h1 := HSUB.out.2.1; have h2 := HSUB.out.2.2; go_simp)),
          Or.inr (fun W hB => known_val rfl (by go_simp)),
          Or.inr (fun W hB => known_val rfl (by go_simp)),
          Or.inr (fun W hB => known_val rfl (by go_simp)),
          Or.inr (fun W hB => known_val rfl (by go_simp)),
          Or.inr (fun W hB => known_val rfl (by go_simp)),
          Or.inr (fun W hB => known_val rfl (by have := ((M.drew.step hB).row 1 rfl).fk hs; go_simp)),
          Or.inr (fun W hB => known_val rfl (by go_simp)),
          Or.inr (fun W hB => known_val rfl (by go_simp)),
          Or.inr (fun W hB => known_val rfl (by have := ((M.drew.step hB).row 0 rfl).fk hx; go_simp)),
          Or.inr (fun W hB => known_val rfl (by go_simp)),
          Or.inr (fun W hB => known_val rfl (by go_simp)),
          Or.inr (fun W hB => known_val rfl (by go_simp)), trivial⟩
      intro G W hB hM
      replace M := M.drew.step hB
      clear hB hM G
      refine wpAny_end (by kernel_rfl) ?_ _
      refine NoPanic.normal ?_
      go_wp2
      go_ret
      exact ⟨rfl, M.below⟩
    · have hd : x.head = 18 := by unfold E8.head; rw [if_neg (by omega)]
      have hn : decide ((n : Int) < 18) = false := by simp; omega
      have hkb : (x.k == 0) = false := by simp; exact hk
      have hsub : IntKind.i64.wrap ((n : Int) - 18) = (m : Int) ∧ (m : Int) ≤ (x.b.size : Int) ∧ x.b.extract 0 m = B := ⟨by have := HX.out; rw [IntWalk.i64_in _ (by omega)]; omega, by omega, hB⟩
      have HSUB := Lib.hid hsub
      clear hsub hm hB hh hh2 hd
      go_upto_region 6 with (first
        | (refine wpList_store_row rfl 32 (.tmp 8) (.tmp 34) rfl w4.heap.size (E8.mk x.d x.s x.k B x.v x.p).c rfl rfl 32 ez.c r1 (e8_info hs) (ez_size hs) (E8.one _) ?_))
      change Code.wp _ _ _ _ ((w4.alloc (.cells ez.c 32)).setRow w4.heap.size (E8.mk x.d x.s x.k B x.v x.p).c)
      have M : Mem w [(w.heap.size, 27, x.c), (w4.heap.size, 32, (E8.mk x.d x.s x.k B x.v x.p).c)] ((w4.alloc (.cells ez.c 32)).setRow w4.heap.size (E8.mk x.d x.s x.k B x.v x.p).c) := HM.out
      clear r1 HM i1
      generalize (w4.alloc (.cells ez.c 32)).setRow w4.heap.size (E8.mk x.d x.s x.k B x.v x.p).c = W5 at M ⊢
      generalize w4.heap.size = g at M ⊢
      have ck := (M.row 0 rfl).fk hx
      have cv := (M.row 0 rfl).fv hx
      go_upto_region 11 with fail
      clear ck cv
      refine wp_region_noPanic ?_
      refine wp_region_flow (fin := ?fin2) 25 0 (by kernel_rfl) [.inl (.int .i64 0),
        .inl (.bool true),
        .inl (.bool true),
        .inl (.pointer (some ⟨g, 0, none⟩)),
        .inl (.pointer (some ⟨g, 13, none⟩)),
        .inl (.string B),
        .inl (.pointer (some ⟨w.heap.size, 0, none⟩)),
        .inl (.pointer (some ⟨w.heap.size, 13, none⟩)),
        .inl (.string x.b),
        .inl (.int .i64 (n : Int)),
        .inl (.int .i64 18),
        .inl (.int .i64 (m : Int)),
        .inl (.string B),
        .inl (.bool true),
        .inl (.bool true),
        .inl (.bool true),
        .inl (.pointer (some ⟨g, 0, none⟩)),
        .inl (.pointer (some ⟨g, 12, none⟩)),
        .inl (.int .i64 x.k),
        .inl (.pointer (some ⟨w.heap.size, 0, none⟩)),
        .inl (.pointer (some ⟨w.heap.size, 12, none⟩)),
        .inl (.int .i64 x.k),
        .inl (.bool true),
        .inl (.bool true),
        .inl (.bool true)] rfl rfl (by kernel_rfl) ?hfin2 ?hE2 ?hend2
      case hfin2 =>
        intro G
        simp only [flowAll, flowVal, Act.put, List.setIfInBounds_toArray, List.set_cons_zero, List.set_cons_succ]
        exact rfl
      case hE2 =>
        intro G
        refine ⟨Or.inr (fun W hB => known_val rfl (by go_simp)),
          Or.inr (fun W hB => known_val rfl (by go_simp)),
          Or.inr (fun W hB => known_val rfl (by go_simp)),
          Or.inr (fun W hB => known_val rfl (by go_simp)),
          Or.inr (fun W hB => known_val rfl (by go_simp)),
          Or.inr (fun W hB => known_val rfl (by have := ((M.drew.step hB).row 1 rfl).fb hs; go_simp)),
          Or.inr (fun W hB => known_val rfl (by go_simp)),
          Or.inr (fun W hB => known_val rfl (by go_simp)),
          Or.inr (fun W hB => known_val rfl (by have := ((M.drew.step hB).row 0 rfl).fb hx; go_simp)),
          Or.inr (fun W hB => known_val rfl (by go_simp)),
          Or.inr (fun W hB => known_val rfl (by go_simp)),
          Or.inr (fun W hB => known_val rfl (by have := HSUB.out.1; go_simp)),
          Or.inr (fun W hB => known_val rfl (by have h1 := HSUB.out.2.1; have h2 := HSUB.out.2.2; go_simp)),
          Or.inr (fun W hB => known_val rfl (by go_simp)),
          Or.inr (fun W hB => known_val rfl (by go_simp)),
          Or.inr (fun W hB => known_val rfl (by go_simp)),
          Or.inr (fun W hB => known_val rfl (by go_simp)),
          Or.inr (fun W hB => known_val rfl (by go_simp)),
          Or.inr (fun W hB => known_val rfl (by have := ((M.drew.step hB).row 1 rfl).fk hs; go_simp)),
          Or.inr (fun W hB => known_val rfl (by go_simp)),
          Or.inr (fun W hB => known_val rfl (by go_simp)),
          Or.inr (fun W hB => known_val rfl (by have := ((M.drew.step hB).row 0 rfl).fk hx; go_simp)),
          Or.inr (fun W hB => known_val rfl (by go_simp)),
          Or.inr (fun W hB => known_val rfl (by go_simp)),
          Or.inr (fun W hB => known_val rfl (by go_simp)), trivial⟩
      intro G W hB hM
      replace M := M.drew.step hB
      clear hB hM G
      refine wpAny_end (by kernel_rfl) ?_ _
      refine NoPanic.normal ?_
      go_wp2
      go_ret
      exact ⟨rfl, M.below⟩
theorem cut8_any (x : E8) (hx : x.Six) (c : Int) (wf : (Lit.int .u16 c).wf = true) (w : World) : Calls Try.prog 6 #[.agg x.c, .int .u16 c] w fun e w' => e = .returned (.bool true) ∧ Below w.heap.size w w' := by
  have hcb : 0 ≤ c ∧ c < 65536 := by
    simp [Lit.wf, IntKind.min, IntKind.max, IntKind.signed, IntKind.bits] at wf
    omega
  by_cases hr : x.right = true
  · obtain ⟨k, rfl⟩ := Int.eq_ofNat_of_zero_le hcb.1
    have hk : k < 65536 := by omega
    obtain ⟨h1, h2, h3⟩ := right_spec hr
    have hl := bytes_length hx
    have hh := head_le x
    have hh14 : 14 ≤ x.head := by unfold E8.head; split <;> omega
    have hn : k % x.bytes.length < x.bytes.length := Nat.mod_lt _ (by omega)
    have hex : (⟨x.bytes.toArray⟩ : ByteArray).extract 0 (k % x.bytes.length) = ⟨(x.bytes.take (k % x.bytes.length)).toArray⟩ := by
      apply ext_list
      rw [extract_list, str_list]
      rfl
    have hR := fun W => parse_any ((⟨x.bytes.toArray⟩ : ByteArray).extract 0 (k % x.bytes.length)) (by rw [ByteArray.size_extract, str_size]; omega) W
    have hs := parse_six ((⟨x.bytes.toArray⟩ : ByteArray).extract 0 (k % x.bytes.length))
    have hp := parse_cut hx hr (k % x.bytes.length) hn
    rw [← hex] at hp
    refine cut8_yes x hx hr k (k % x.bytes.length) x.bytes.length _ rfl rfl (by omega) rfl hk _ hR hs ?_ _ rfl _ rfl ?_ w
    · rcases h3 with ⟨hv, _⟩ | ⟨V, Q, hv, _, _, _⟩
      · exact Or.inl hv
      · exact Or.inr (by omega)
    · by_cases hc : x.k = 0 ∨ k % x.bytes.length < x.head
      · rw [if_pos hc] at hp
        exact Or.inl ⟨hc, hp⟩
      · rw [if_neg hc] at hp
        exact Or.inr ⟨fun e => hc (Or.inl e), by omega, by omega, hp⟩
  · exact cut8_no x hx (by simpa using hr) c w
end Go.Proofs.Ytphdlldmeniihaa
