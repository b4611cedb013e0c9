/- The law EtherTags: walked. -/
import Derived.Test.YtphdlldmeniihaaVN
namespace Go.Proofs.Ytphdlldmeniihaa
open Go.RowKit
/-- a frame without its tag, and with another one -/
def E8.bare (x : E8) : E8 := ⟨x.d, x.s, x.k, x.b, -1, 0⟩
def E8.with (x : E8) (V Q : Nat) : E8 := ⟨x.d, x.s, x.k, x.b, V, Q⟩
theorem bare_right (x : E8) : x.bare.right = (rightT x.k && decide (x.b.size ≤ 1500)) := by
  unfold E8.right E8.bare
  simp
theorem with_right (x : E8) (V Q : Nat) (hV : V ≤ 4094) (hQ : Q ≤ 7) : (x.with V Q).right = (rightT x.k && decide (x.b.size ≤ 1500)) := by
  unfold E8.right E8.with
  have h1 : ¬ (V : Int) = -1 := by omega
  have h2 : (V : Int) ≤ 4094 := by omega
  have h3 : (Q : Int) ≤ 7 := by omega
  simp only [h1, if_false]
  simp [h2, h3]
theorem tags_len {x : E8} (hx : x.Six) (V Q : Nat) : (x.with V Q).bytes.length = x.bare.bytes.length + 4 := by
  have h1 : x.bare.Six := ⟨hx.d, hx.s⟩
  have h2 : (x.with V Q).Six := ⟨hx.d, hx.s⟩
  rw [bytes_length h1, bytes_length h2]
  have e1 : x.bare.head = 14 := rfl
  have e2 : (x.with V Q).head = 18 := by
    unfold E8.head E8.with
    rw [if_neg (by show ¬ (V : Int) = -1; omega)]
  rw [e1, e2]
  show 18 + x.b.size = 14 + x.b.size + 4
  omega
theorem with_bytes (x : E8) (V Q : Nat) : (x.with V Q).bytes = (x.d ++ x.s) ++ (tagL V Q ++ (beTail x.kind 2 ++ x.b.data.toList)) := by
  have ht : (x.with V Q).tag = tagL V Q := by
    unfold E8.tag E8.with
    rw [if_neg (by show ¬ (V : Int) = -1; omega)]
    rfl
  show (x.d ++ x.s) ++ (x.with V Q).tag ++ beTail x.kind 2 ++ x.b.data.toList = _
  rw [ht, List.append_assoc, List.append_assoc]
theorem bare_bytes (x : E8) : x.bare.bytes = (x.d ++ x.s) ++ (beTail x.kind 2 ++ x.b.data.toList) := by
  show (x.d ++ x.s) ++ [] ++ beTail x.kind 2 ++ x.b.data.toList = _
  rw [List.append_nil, List.append_assoc]
/-- the first twelve bytes are the same; what stands behind the tag is -/
theorem tags_front {x : E8} (hx : x.Six) (V Q : Nat) : (⟨(x.with V Q).bytes.toArray⟩ : ByteArray).extract 0 12 = (⟨x.bare.bytes.toArray⟩ : ByteArray).extract 0 12 := by
  have hl : (x.d ++ x.s).length = 12 := by rw [List.length_append, hx.d, hx.s]
  apply ext_list
  rw [extract_list, extract_list, str_list, str_list, with_bytes, bare_bytes, List.drop_zero, List.drop_zero, List.take_append_of_le_length (l₁ := x.d ++ x.s) (by omega), List.take_append_of_le_length (l₁ := x.d ++ x.s) (by omega)]
theorem tags_back {x : E8} (hx : x.Six) (V Q m : Nat) : (⟨(x.with V Q).bytes.toArray⟩ : ByteArray).extract 16 (m + 4) = (⟨x.bare.bytes.toArray⟩ : ByteArray).extract 12 m := by
  have hl : (x.d ++ x.s).length = 12 := by rw [List.length_append, hx.d, hx.s]
  have hl2 : ((x.d ++ x.s) ++ tagL V Q).length = 16 := by rw [List.length_append, hl, tagL_length]
  apply ext_list
  rw [extract_list, extract_list, str_list, str_list, with_bytes, bare_bytes, ← List.append_assoc (x.d ++ x.s) (tagL V Q)]
  rw [List.drop_append_of_le_length (by omega), List.drop_of_length_le (by omega), List.nil_append, List.drop_append_of_le_length (by omega), List.drop_of_length_le (by omega), List.nil_append, show m + 4 - 16 = m - 12 from by omega]
set_option maxRecDepth 20000 in
set_option maxHeartbeats 1000000 in
theorem tags8_any (x : E8) (hx : x.Six) (c q : Nat) (hc : c < 65536) (hq : q < 256) (w : World) : Calls Try.prog 5 #[.agg x.c, .int .u16 (c : Int), .int .u8 (q : Int)] w fun e w' => e = .returned (.bool true) ∧ Below w.heap.size w w' := by
  have M : Mem w [(w.heap.size, 27, x.c)] (w.alloc (.cells x.c 27)) := (Mem.init w).alloc _ rfl _ _
  have ha := fun W => awake_any W
  have HA := Lib.hid ha
  clear ha
  by_cases h0 : 2000 < x.b.size
  · have h1 : (2000 : Int) < (x.b.size : Int) := by omega
    go_enter Try.func5, Try.ntmps5
    go_wp2_with fail
    generalize w.alloc (.cells x.c 27) = W0 at M ⊢
    refine (HA.out _).mono ?_
    rintro e w1 ⟨rfl, hb1⟩
    replace M := M.step hb1
    clear hb1
    have cb := (M.row 0 rfl).fb hx
    go_wp2_with fail
    refine (HA.out _).mono ?_
    rintro e w2 ⟨rfl, hb2⟩
    replace M := M.step hb2
    clear hb2 cb
    go_wp2
    go_ret
    exact ⟨rfl, M.below⟩
  · have h1 : ¬ (2000 : Int) < (x.b.size : Int) := by omega
    have hof := fun W => of_any x hx W
    have HO := Lib.hid hof
    clear hof
    go_enter Try.func5, Try.ntmps5
    go_wp2_with fail
    generalize w.alloc (.cells x.c 27) = W0 at M ⊢
    refine (HA.out _).mono ?_
    rintro e w1 ⟨rfl, hb1⟩
    replace M := M.step hb1
    clear hb1
    have cb := (M.row 0 rfl).fb hx
    go_upto_region 3 with fail
    clear cb
    refine wp_region_noPanic ?_
    refine wp_region_flow (fin := ?fin1) 6 2 (by kernel_rfl) [.inl (.agg x.c),
      .inl (.agg x.c),
      .inl (.agg x.c),
      .inl (.agg x.c),
      .inr (32, ez.c),
      .inr (32, ez.c)] rfl rfl (by kernel_rfl) ?hfin1 ?hE1 ?hend1
    case hfin1 =>
      intro G
      simp only [flowAll, flowVal, Act.put, List.setIfInBounds_toArray, List.set_cons_zero, List.set_cons_succ]
      exact rfl
    case hE1 =>
      intro G
      refine ⟨Or.inr (fun W hB => known_val rfl (by exact exec_load_row 27 (.tmp 3) w.heap.size ((M.drew.step hB).row 0 rfl) Try.underlying27 rfl (r8_info hx) rfl rfl)),
        Or.inr (fun W hB => known_call 9 #[.agg x.c] (HO.out W) rfl (by go_simp)),
        Or.inr (fun W hB => known_val rfl (by exact exec_load_row 27 (.tmp 3) w.heap.size ((M.drew.step hB).row 0 rfl) Try.underlying27 rfl (r8_info hx) rfl rfl)),
        Or.inr (fun W hB => known_call 9 #[.agg x.c] (HO.out W) rfl (by go_simp)),
        ⟨rfl, fun W => by unfold execOp; go_simp; rfl⟩,
        ⟨rfl, fun W => by unfold execOp; go_simp; rfl⟩, trivial⟩
    intro G W hB hM
    replace M := M.drew.made2 hB hM 4 5 (by omega) rfl rfl rfl rfl
    simp only [List.cons_append, List.nil_append] at M
    generalize G 4 = g7 at M ⊢
    generalize G 5 = g8 at M ⊢
    clear hB hM G
    refine only0 6 (W.setRow g7 x.c) _ (by kernel_rfl) rfl rfl rfl (exec_store_row 32 (.tmp 7) (.tmp 24) g7 x.c (M.row 1 rfl) (e8_info hx) (ez_size hx) (E8.one _) rfl rfl rfl) ?_
    replace M := M.store 1 rfl x.c
    simp only [List.set_cons_zero, List.set_cons_succ] at M
    generalize W.setRow g7 x.c = W2 at M ⊢
    simp only [Act.put]
    refine only0 7 (W2.setRow g8 x.c) _ (by kernel_rfl) rfl rfl rfl (exec_store_row 32 (.tmp 8) (.tmp 26) g8 x.c (M.row 2 rfl) (e8_info hx) (ez_size hx) (E8.one _) rfl rfl rfl) ?_
    replace M := M.store 2 rfl x.c
    simp only [List.set_cons_zero, List.set_cons_succ] at M
    generalize W2.setRow g8 x.c = W3 at M ⊢
    simp only [Act.put]
    refine wpAny_end (by kernel_rfl) ?_ _
    refine NoPanic.normal ?_
    clear W W2
    obtain ⟨V, hV⟩ : ∃ V, c % 4095 = V := ⟨_, rfl⟩
    obtain ⟨Q, hQ⟩ : ∃ Q, q % 8 = Q := ⟨_, rfl⟩
    have hVm : (wrap64 (c : Int)).tmod 4095 = (V : Int) := by rw [show wrap64 (c : Int) = (c : Int) from by unfold wrap64; omega, Int.tmod_eq_emod_of_nonneg (by omega)]; omega
    have hQm : (wrap64 (q : Int)).tmod 8 = (Q : Int) := by rw [show wrap64 (q : Int) = (q : Int) from by unfold wrap64; omega, Int.tmod_eq_emod_of_nonneg (by omega)]; omega
    have hVQ := Lib.hid (show V ≤ 4094 ∧ Q ≤ 7 from ⟨by omega, by omega⟩)
    clear hV hQ hc hq
    have c14 := (M.row 1 rfl).fv hx
    have f14 := (M.row 1 rfl).frozen 14
    replace M := M.setCell 1 rfl 14 (.int .i64 (-1))
    rw [E8.set_v hx] at M
    simp only [List.set_cons_zero, List.set_cons_succ] at M
    have x2 : (E8.mk x.d x.s x.k x.b (-1) x.p).Six := ⟨hx.d, hx.s⟩
    have c15 := (M.row 1 rfl).fp x2
    have f15 := (M.row 1 rfl).frozen 15
    replace M := M.setCell 1 rfl 15 (.int .i64 0)
    rw [E8.set_p x2] at M
    simp only [List.set_cons_zero, List.set_cons_succ] at M
    have d14 := (M.row 2 rfl).fv hx
    have e14 := (M.row 2 rfl).frozen 14
    have hM4 := Lib.hid M
    go_upto_region 5 with fail
    clear c14 f14 c15 f15 hM4
    generalize (W3.setCell ⟨g7, 14, none⟩ (.int .i64 (-1))).setCell ⟨g7, 15, none⟩ (.int .i64 0) = W4 at M d14 e14 ⊢
    replace M := M.setCell 2 rfl 14 (.int .i64 (V : Int))
    rw [E8.set_v hx] at M
    simp only [List.set_cons_zero, List.set_cons_succ] at M
    have x3 : (E8.mk x.d x.s x.k x.b (V : Int) x.p).Six := ⟨hx.d, hx.s⟩
    have d15 := (M.row 2 rfl).fp x3
    have e15 := (M.row 2 rfl).frozen 15
    replace M := M.setCell 2 rfl 15 (.int .i64 (Q : Int))
    rw [E8.set_p x3] at M
    simp only [List.set_cons_zero, List.set_cons_succ] at M
    have hM5 := Lib.hid M
    clear M
    go_upto_region 6 with fail
    have M : Mem w [(w.heap.size, 27, x.c), (g7, 32, x.bare.c), (g8, 32, (x.with V Q).c)] _ := hM5.out
    clear d14 e14 d15 e15 hM5 hVm hQm
    generalize (W4.setCell ⟨g8, 14, none⟩ (.int .i64 (V : Int))).setCell ⟨g8, 15, none⟩ (.int .i64 (Q : Int)) = W5 at M ⊢
    have y1 : x.bare.Six := ⟨hx.d, hx.s⟩
    have y2 : (x.with V Q).Six := ⟨hx.d, hx.s⟩
    have hr1 := bare_right x
    have hr2 := with_right x V Q hVQ.out.1 hVQ.out.2
    have p1 := fun W => print_any x.bare y1 W
    have p2 := fun W => print_any (x.with V Q) y2 W
    unfold printF at p1 p2
    have q1 := fun W => right_any x.bare y1 W
    have q2 := fun W => right_any (x.with V Q) y2 W
    rw [hr1] at p1 q1
    rw [hr2] at p2 q2
    have hlen := tags_len hx V Q
    have hfr := tags_front hx V Q
    have hbk := tags_back hx V Q x.bare.bytes.length
    have hsm : x.bare.bytes.length ≤ 2014 := by
      rw [bytes_length y1]
      show 14 + x.b.size ≤ 2014
      omega
    clear hr1 hr2 x2 x3
    generalize (rightT x.k && decide (x.b.size ≤ 1500)) = r at p1 p2 q1 q2
    generalize (x.with V Q) = z at M p2 q2 y2 hlen hfr hbk
    generalize x.bare = y at M p1 q1 y1 hlen hfr hbk hsm
    have Q1 := Lib.hid q1
    have Q2 := Lib.hid q2
    clear q1 q2 hx
    have i1 := M.row 1 rfl
    cases r with
    | true =>
      rw [if_pos rfl] at p1 p2
      have hT1 : (⟨y.bytes.toArray⟩ : ByteArray).size = y.bytes.length := rfl
      have hT2 : (⟨z.bytes.toArray⟩ : ByteArray).size = y.bytes.length + 4 := hlen
      have hm14 : 14 ≤ y.bytes.length := by
        have h1 := bytes_length y1
        have h2 : 14 ≤ y.head := by unfold E8.head; split <;> omega
        omega
      generalize y.bytes.length = m at hT1 hT2 hbk hm14 hsm
      have P1 := Lib.hid p1
      have P2 := Lib.hid p2
      clear p1 p2 hlen
      simp only [] at P1 P2
      generalize (⟨y.bytes.toArray⟩ : ByteArray) = T1 at P1 hT1 hfr hbk
      generalize (⟨z.bytes.toArray⟩ : ByteArray) = T2 at P2 hT2 hfr hbk
      go_wp2_with (first
        | (refine wpList_load_row rfl 32 (.tmp 7) rfl g7 rfl 32 y.c (0, 0) _ i1 Try.underlying32 rfl (e8_info y1) ?_))
      refine (P1.out _).mono ?_
      rintro e w2 ⟨rfl, hb2⟩
      replace M := M.step hb2
      clear hb2 i1
      have i2 := M.row 2 rfl
      go_wp2_with (first
        | (refine wpList_load_row rfl 32 (.tmp 8) rfl g8 rfl 32 z.c (0, 0) _ i2 Try.underlying32 rfl (e8_info y2) ?_))
      refine (P2.out _).mono ?_
      rintro e w3 ⟨rfl, hb3⟩
      replace M := M.step hb3
      clear hb3 i2
      go_upto_region 10 with fail
      have ha : IntKind.i64.wrap ((m : Int) + 4) = ((m + 4 : Nat) : Int) := by rw [IntWalk.i64_in _ (by omega)]; omega
      obtain ⟨L, hL⟩ : ∃ L, m + 4 = L := ⟨_, rfl⟩
      have hL2 : (16 : Int) ≤ (L : Int) ∧ (12 : Int) ≤ (L : Int) := by omega
      have hm2 : (12 : Int) ≤ (m : Int) := by omega
      rw [hL] at ha hT2 hbk
      clear hL hm14 hsm
      obtain ⟨F, hF⟩ : ∃ F, T1.extract 0 12 = F := ⟨_, rfl⟩
      obtain ⟨B, hB⟩ : ∃ B, T1.extract 12 m = B := ⟨_, rfl⟩
      rw [hF] at hfr
      rw [hB] at hbk
      have HF := Lib.hid (And.intro hF (And.intro hB (And.intro hfr hbk)))
      clear hF hB hfr hbk
      refine wp_region_noPanic ?_
      refine wp_region_flow (fin := ?fin2) 21 0 (by kernel_rfl) [.inl (.string T2),
        .inl (.int .i64 (L : Int)),
        .inl (.string T1),
        .inl (.int .i64 (m : Int)),
        .inl (.int .i64 (L : Int)),
        .inl (.bool true),
        .inl (.bool true),
        .inl (.string T2),
        .inl (.string F),
        .inl (.string T1),
        .inl (.string F),
        .inl (.bool true),
        .inl (.bool true),
        .inl (.bool true),
        .inl (.string T2),
        .inl (.string B),
        .inl (.string T1),
        .inl (.string B),
        .inl (.bool true),
        .inl (.bool true),
        .inl (.bool true)] rfl rfl (by kernel_rfl) ?hfin2 ?hE2 ?hend2
      case hfin2 =>
        intro G
        simp only [flowAll, flowVal, Act.put, List.setIfInBounds_toArray, List.set_cons_zero, List.set_cons_succ]
        exact rfl
      case hE2 =>
        intro G
        refine ⟨Or.inr (fun W hB => known_val rfl (by go_simp)),
          Or.inr (fun W hB => known_val rfl (by go_simp)),
          Or.inr (fun W hB => known_val rfl (by go_simp)),
          Or.inr (fun W hB => known_val rfl (by go_simp)),
          Or.inr (fun W hB => known_val rfl (by go_simp)),
          Or.inr (fun W hB => known_val rfl (by go_simp)),
          Or.inr (fun W hB => known_val rfl (by go_simp)),
          Or.inr (fun W hB => known_val rfl (by go_simp)),
          Or.inr (fun W hB => known_val rfl (by have h1 := HF.out.2.2.1; have h2 := hL2.2; go_simp)),
          Or.inr (fun W hB => known_val rfl (by go_simp)),
          Or.inr (fun W hB => known_val rfl (by have h1 := HF.out.1; go_simp)),
          Or.inr (fun W hB => known_val rfl (by go_simp)),
          Or.inr (fun W hB => known_val rfl (by go_simp)),
          Or.inr (fun W hB => known_val rfl (by go_simp)),
          Or.inr (fun W hB => known_val rfl (by go_simp)),
          Or.inr (fun W hB => known_val rfl (by have h1 := HF.out.2.2.2; have h2 := hL2.1; go_simp)),
          Or.inr (fun W hB => known_val rfl (by go_simp)),
          Or.inr (fun W hB => known_val rfl (by have h1 := HF.out.2.1; go_simp)),
          Or.inr (fun W hB => known_val rfl (by go_simp)),
          Or.inr (fun W hB => known_val rfl (by go_simp)),
          Or.inr (fun W hB => known_val rfl (by go_simp)), trivial⟩
      intro G W hB hM
      replace M := M.drew.step hB
      clear hB hM G
      refine wpAny_end (by kernel_rfl) ?_ _
      refine NoPanic.normal ?_
      go_wp2
      go_ret
      exact ⟨rfl, M.below⟩
    | false =>
      rw [if_neg (by simp)] at p1 p2
      have P1 := Lib.hid p1
      have P2 := Lib.hid p2
      clear p1 p2 hlen hfr hbk hsm
      go_wp2_with (first
        | (refine wpList_load_row rfl 32 (.tmp 7) rfl g7 rfl 32 y.c (0, 0) _ i1 Try.underlying32 rfl (e8_info y1) ?_))
      refine (P1.out _).mono ?_
      rintro e w2 ⟨rfl, hb2⟩
      replace M := M.step hb2
      clear hb2 i1
      have i2 := M.row 2 rfl
      go_wp2_with (first
        | (refine wpList_load_row rfl 32 (.tmp 8) rfl g8 rfl 32 z.c (0, 0) _ i2 Try.underlying32 rfl (e8_info y2) ?_))
      refine (P2.out _).mono ?_
      rintro e w3 ⟨rfl, hb3⟩
      replace M := M.step hb3
      clear hb3 i2
      have i1 := M.row 1 rfl
      go_wp2_with (first
        | (refine wpList_load_rowG rfl 32 (.tmp 7) rfl g7 rfl 32 y.c (0, 0) _ i1 Try.underlying32 rfl (e8_info y1) ?_))
      refine (Q1.out _).mono ?_
      rintro e w4 ⟨rfl, hb4⟩
      replace M := M.step hb4
      clear hb4 i1
      have i2 := M.row 2 rfl
      go_wp2_with (first
        | (refine wpList_load_rowG rfl 32 (.tmp 8) rfl g8 rfl 32 z.c (0, 0) _ i2 Try.underlying32 rfl (e8_info y2) ?_))
      refine (Q2.out _).mono ?_
      rintro e w5 ⟨rfl, hb5⟩
      replace M := M.step hb5
      clear hb5 i2
      go_wp2
      go_ret
      exact ⟨rfl, M.below⟩
theorem tags8_law (x : E8) (hx : x.Six) (c q : Int) (wc : (Lit.int .u16 c).wf = true) (wq : (Lit.int .u8 q).wf = true) (w : World) : Calls Try.prog 5 #[.agg x.c, .int .u16 c, .int .u8 q] w fun e w' => e = .returned (.bool true) ∧ Below w.heap.size w w' := by
  have hc : 0 ≤ c ∧ c < 65536 := by
    simp [Lit.wf, IntKind.min, IntKind.max, IntKind.signed, IntKind.bits] at wc
    omega
  have hq : 0 ≤ q ∧ q < 256 := by
    simp [Lit.wf, IntKind.min, IntKind.max, IntKind.signed, IntKind.bits] at wq
    omega
  obtain ⟨k, rfl⟩ := Int.eq_ofNat_of_zero_le hc.1
  obtain ⟨j, rfl⟩ := Int.eq_ofNat_of_zero_le hq.1
  exact tags8_any x hx k j (by omega) (by omega) w
end Go.Proofs.Ytphdlldmeniihaa
