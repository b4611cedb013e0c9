/- The law BpduFlags: walked. -/
import Derived.Test.YtingcoojhfadgaaZI
namespace Go.Proofs.Ytingcoojhfadgaa
open Go.RowKit
/-- the same word with a change, or without it -/
def B11.turned (x : B11) : B11 := { x with ch := !x.ch }
theorem turned_fit {x : B11} (h : x.Fit) : x.turned.Fit := ⟨h.r, h.b⟩
theorem turned_right {x : B11} (h : x.right = true) : x.turned.right = true := h
theorem flag_turned : ∀ c a : Bool, ((flagP (!c) a).toNat : Int) ≠ ((flagP c a).toNat : Int) := by decide
theorem bytes_tail (x : B11) : x.turned.bytes.drop 8 = x.bytes.drop 8 := rfl
theorem bytes_head (x y : B11) : x.bytes.take 7 = y.bytes.take 7 := rfl
theorem bytes_at (x : B11) : bAt ⟨x.bytes.toArray⟩ 7 = x.flag := rfl
set_option maxRecDepth 20000 in
set_option maxHeartbeats 2000000 in
theorem flags11_nox (x y : B11) (hx : x.Fit) (hy : y.Fit) (rx : x.right = false) (w : World) : Calls Try.prog 7 #[.agg x.c, .agg y.c] w fun e w' => e = .returned (.bool true) ∧ Below w.heap.size w w' := by
  have M : Mem w [(w.heap.size, 24, x.c), (w.heap.size + 1, 24, y.c)] ((w.alloc (.cells x.c 24)).alloc (.cells y.c 24)) :=
    ((Mem.init w).alloc _ rfl _ _).alloc _ (by simp) _ _
  have ha := fun W => awake11_any W
  have HA := Lib.hid ha
  clear ha
  have ox := fun W => of11_any x hx W
  have oy := fun W => of11_any y hy W
  have px := fun W => print11_any x hx W
  have py := fun W => print11_any y hy W
  unfold print11 at px
  rw [if_neg (by rw [rx]; decide)] at px
  have HOX := Lib.hid ox
  have HOY := Lib.hid oy
  have HX := Lib.hid px
  have HY := Lib.hid py
  clear ox oy px py rx
  go_enter Try.func7, Try.ntmps7
  go_upto_region 1 with fail
  change Code.wp _ _ _ _ ((w.alloc (.cells x.c 24)).alloc (.cells y.c 24))
  generalize (w.alloc (.cells x.c 24)).alloc (.cells y.c 24) = W0 at M ⊢
  obtain ⟨ga, hga⟩ : ∃ g, w.heap.size = g := ⟨_, rfl⟩
  obtain ⟨gb, hgb⟩ : ∃ g, w.heap.size + 1 = g := ⟨_, rfl⟩
  rw [hgb, hga] at M ⊢
  clear hga hgb
  have r0 := M.row 0 rfl
  go_wp2_with (first
    | (refine wpList_load_row rfl 24 (.tmp 2) rfl ga rfl 24 x.c (0, 0) _ r0 Try.underlying24 rfl (r11_info hx) ?_))
  refine (HOX.out _).mono ?_
  rintro e w1 ⟨rfl, hb1⟩
  replace M := M.step hb1
  clear hb1
  clear r0
  go_wp2_with fail
  refine (HX.out _).mono ?_
  rintro e w2 ⟨rfl, hb2⟩
  replace M := M.step hb2
  clear hb2
  have r1 := M.row 1 rfl
  go_wp2_with (first
    | (refine wpList_load_row rfl 24 (.tmp 3) rfl gb rfl 24 y.c (0, 0) _ r1 Try.underlying24 rfl (r11_info hy) ?_))
  refine (HOY.out _).mono ?_
  rintro e w3 ⟨rfl, hb3⟩
  replace M := M.step hb3
  clear hb3
  clear r1
  go_wp2_with fail
  refine (HY.out _).mono ?_
  rintro e w4 ⟨rfl, hb4⟩
  replace M := M.step hb4
  clear hb4
  go_wp2_with fail
  refine (HA.out _).mono ?_
  rintro e w5 ⟨rfl, hb5⟩
  replace M := M.step hb5
  clear hb5
  go_wp2_with fail
  refine (HA.out _).mono ?_
  rintro e w6 ⟨rfl, hb6⟩
  replace M := M.step hb6
  clear hb6
  have HM := Lib.hid M.below
  clear M
  go_wp2
  go_ret
  exact ⟨rfl, HM.out⟩
set_option maxRecDepth 20000 in
set_option maxHeartbeats 2000000 in
theorem flags11_one (x y : B11) (hx : x.Fit) (hy : y.Fit) (rx : x.right = true) (ry : y.right = false) (w : World) : Calls Try.prog 7 #[.agg x.c, .agg y.c] w fun e w' => e = .returned (.bool true) ∧ Below w.heap.size w w' := by
  have M : Mem w [(w.heap.size, 24, x.c), (w.heap.size + 1, 24, y.c)] ((w.alloc (.cells x.c 24)).alloc (.cells y.c 24)) :=
    ((Mem.init w).alloc _ rfl _ _).alloc _ (by simp) _ _
  have ha := fun W => awake11_any W
  have HA := Lib.hid ha
  clear ha
  have ox := fun W => of11_any x hx W
  have oy := fun W => of11_any y hy W
  have px := fun W => print11_any x hx W
  have py := fun W => print11_any y hy W
  unfold print11 at px py
  rw [if_pos rx] at px
  rw [if_neg (by rw [ry]; decide)] at py
  have HOX := Lib.hid ox
  have HOY := Lib.hid oy
  have HX := Lib.hid px
  have HY := Lib.hid py
  clear ox oy px py rx ry
  go_enter Try.func7, Try.ntmps7
  go_upto_region 1 with fail
  change Code.wp _ _ _ _ ((w.alloc (.cells x.c 24)).alloc (.cells y.c 24))
  generalize (w.alloc (.cells x.c 24)).alloc (.cells y.c 24) = W0 at M ⊢
  obtain ⟨ga, hga⟩ : ∃ g, w.heap.size = g := ⟨_, rfl⟩
  obtain ⟨gb, hgb⟩ : ∃ g, w.heap.size + 1 = g := ⟨_, rfl⟩
  rw [hgb, hga] at M ⊢
  clear hga hgb
  have r0 := M.row 0 rfl
  go_wp2_with (first
    | (refine wpList_load_row rfl 24 (.tmp 2) rfl ga rfl 24 x.c (0, 0) _ r0 Try.underlying24 rfl (r11_info hx) ?_))
  refine (HOX.out _).mono ?_
  rintro e w1 ⟨rfl, hb1⟩
  replace M := M.step hb1
  clear hb1
  clear r0
  go_wp2_with fail
  refine (HX.out _).mono ?_
  rintro e w2 ⟨rfl, hb2⟩
  replace M := M.step hb2
  clear hb2
  have r1 := M.row 1 rfl
  go_wp2_with (first
    | (refine wpList_load_row rfl 24 (.tmp 3) rfl gb rfl 24 y.c (0, 0) _ r1 Try.underlying24 rfl (r11_info hy) ?_))
  refine (HOY.out _).mono ?_
  rintro e w3 ⟨rfl, hb3⟩
  replace M := M.step hb3
  clear hb3
  clear r1
  go_wp2_with fail
  refine (HY.out _).mono ?_
  rintro e w4 ⟨rfl, hb4⟩
  replace M := M.step hb4
  clear hb4
  go_wp2_with fail
  refine (HA.out _).mono ?_
  rintro e w5 ⟨rfl, hb5⟩
  replace M := M.step hb5
  clear hb5
  go_wp2_with fail
  refine (HA.out _).mono ?_
  rintro e w6 ⟨rfl, hb6⟩
  replace M := M.step hb6
  clear hb6
  have HM := Lib.hid M.below
  clear M
  go_wp2
  go_ret
  exact ⟨rfl, HM.out⟩
set_option maxRecDepth 20000 in
set_option maxHeartbeats 2000000 in
theorem flags11_both (x y : B11) (hx : x.Fit) (hw : x.Wf) (hy : y.Fit) (hv : y.Wf) (rx : x.right = true) (ry : y.right = true) (w : World) : Calls Try.prog 7 #[.agg x.c, .agg y.c] w fun e w' => e = .returned (.bool true) ∧ Below w.heap.size w w' := by
  have M : Mem w [(w.heap.size, 24, x.c), (w.heap.size + 1, 24, y.c)] ((w.alloc (.cells x.c 24)).alloc (.cells y.c 24)) :=
    ((Mem.init w).alloc _ rfl _ _).alloc _ (by simp) _ _
  have ha := fun W => awake11_any W
  have HA := Lib.hid ha
  clear ha
  have ox := fun W => of11_any x hx W
  have oy := fun W => of11_any y hy W
  have px := fun W => print11_any x hx W
  have py := fun W => print11_any y hy W
  unfold print11 at px py
  rw [if_pos rx] at px
  rw [if_pos ry] at py
  have HOX := Lib.hid ox
  have HOY := Lib.hid oy
  have ot := fun W => of11_any x.turned (turned_fit hx) W
  have pt := fun W => print11_any x.turned (turned_fit hx) W
  unfold print11 at pt
  rw [if_pos (turned_right rx)] at pt
  have HOT := Lib.hid ot
  have sx := size38 hx
  have st := size38 (turned_fit hx)
  have hq : (x.bytes == y.bytes) = true ↔ x = y := by
    rw [beq_iff_eq]
    exact ⟨fun h => bytes11_inj hx hy rx ry h, fun h => by rw [h]⟩
  obtain ⟨q, hq0⟩ : ∃ q, (x.bytes == y.bytes) = q := ⟨_, rfl⟩
  rw [hq0] at hq
  have e1 : ((⟨x.bytes.toArray⟩ : ByteArray).data.toList == (⟨y.bytes.toArray⟩ : ByteArray).data.toList) = q := hq0
  clear hq0
  have e7 : (((⟨x.turned.bytes.toArray⟩ : ByteArray).extract 0 7).data.toList == ((⟨x.bytes.toArray⟩ : ByteArray).extract 0 7).data.toList) = true := by
    rw [extract_list, extract_list, str_list, str_list]
    simp only [List.drop_zero]
    rw [bytes_head x.turned x]
    exact beq_self_eq_true _
  have e8 : (((⟨x.turned.bytes.toArray⟩ : ByteArray).extract 8 (⟨x.turned.bytes.toArray⟩ : ByteArray).size).data.toList == ((⟨x.bytes.toArray⟩ : ByteArray).extract 8 (⟨x.bytes.toArray⟩ : ByteArray).size).data.toList) = true := by
    rw [rest_at, rest_at, str_list, str_list, bytes_tail]
    exact beq_self_eq_true _
  have f1 : bAt ⟨x.turned.bytes.toArray⟩ 7 = x.turned.flag := bytes_at x.turned
  have f2 : bAt ⟨x.bytes.toArray⟩ 7 = x.flag := bytes_at x
  have hne : ((x.turned.flag.toNat : Int) != (x.flag.toNat : Int)) = true := by
    rw [bne_iff_ne]
    exact flag_turned x.ch x.ack
  generalize x.turned.flag = k1 at f1 hne
  generalize x.flag = k2 at f2 hne
  generalize (⟨x.turned.bytes.toArray⟩ : ByteArray) = V at pt st e7 e8 f1
  generalize (⟨x.bytes.toArray⟩ : ByteArray) = T at px sx e1 e7 e8 f2
  generalize (⟨y.bytes.toArray⟩ : ByteArray) = U at py e1
  have HT := Lib.hid pt
  have HE := Lib.hid (And.intro e1 (And.intro e7 e8))
  have HF := Lib.hid (And.intro f1 (And.intro f2 hne))
  have HQ := Lib.hid hq
  have v7 : (7 : Int) ≤ (V.size : Int) := by omega
  have t7 : (7 : Int) ≤ (T.size : Int) := by omega
  have v8 : 8 ≤ V.size := by omega
  have t8 : 8 ≤ T.size := by omega
  have hxt := turned_fit hx
  clear ot pt e1 e7 e8 f1 f2 hne hq sx st
  have HX := Lib.hid px
  have HY := Lib.hid py
  clear ox oy px py rx ry
  go_enter Try.func7, Try.ntmps7
  go_upto_region 1 with fail
  change Code.wp _ _ _ _ ((w.alloc (.cells x.c 24)).alloc (.cells y.c 24))
  generalize (w.alloc (.cells x.c 24)).alloc (.cells y.c 24) = W0 at M ⊢
  obtain ⟨ga, hga⟩ : ∃ g, w.heap.size = g := ⟨_, rfl⟩
  obtain ⟨gb, hgb⟩ : ∃ g, w.heap.size + 1 = g := ⟨_, rfl⟩
  rw [hgb, hga] at M ⊢
  clear hga hgb
  have r0 := M.row 0 rfl
  go_wp2_with (first
    | (refine wpList_load_row rfl 24 (.tmp 2) rfl ga rfl 24 x.c (0, 0) _ r0 Try.underlying24 rfl (r11_info hx) ?_))
  refine (HOX.out _).mono ?_
  rintro e w1 ⟨rfl, hb1⟩
  replace M := M.step hb1
  clear hb1
  clear r0
  go_wp2_with fail
  refine (HX.out _).mono ?_
  rintro e w2 ⟨rfl, hb2⟩
  replace M := M.step hb2
  clear hb2
  have r1 := M.row 1 rfl
  go_wp2_with (first
    | (refine wpList_load_row rfl 24 (.tmp 3) rfl gb rfl 24 y.c (0, 0) _ r1 Try.underlying24 rfl (r11_info hy) ?_))
  refine (HOY.out _).mono ?_
  rintro e w3 ⟨rfl, hb3⟩
  replace M := M.step hb3
  clear hb3
  clear r1
  go_wp2_with fail
  refine (HY.out _).mono ?_
  rintro e w4 ⟨rfl, hb4⟩
  replace M := M.step hb4
  clear hb4
  go_wp2_with fail
  refine (HA.out _).mono ?_
  rintro e w5 ⟨rfl, hb5⟩
  replace M := M.step hb5
  clear hb5
  have r0 := M.row 0 rfl
  clear HA HOX HOY HX HY
  replace M := M.alloc _ rfl 24 bz.c
  simp only [List.cons_append, List.nil_append] at M
  have r1 := M.row 2 rfl
  replace M := M.store 2 rfl x.c
  simp only [List.set_cons_zero, List.set_cons_succ] at M
  have HM := Lib.hid M
  clear M
  go_upto_region 6 with (first
    | (refine wpList_load_row rfl 24 (.tmp 2) rfl ga rfl 24 x.c (0, 0) _ r0 Try.underlying24 rfl (r11_info hx) ?_)
    | (refine wpList_store_row rfl 24 (.tmp 9) (.tmp 35) rfl w5.heap.size x.c rfl rfl 24 bz.c r1 (r11_info hx) (by rw [B11.size bz_fit, B11.size hx]) (B11.one _) ?_))
  change Code.wp _ _ _ _ ((w5.alloc (.cells bz.c 24)).setRow w5.heap.size x.c)
  have M := HM.out
  clear r1 HM r0
  generalize (w5.alloc (.cells bz.c 24)).setRow w5.heap.size x.c = W5 at M ⊢
  generalize w5.heap.size = gt at M ⊢
  have c1 := (M.row 0 rfl).b_ch hx
  have c2 := (M.row 2 rfl).b_ch hx
  have c3 := (M.row 2 rfl).frozen 22
  replace M := M.setCell 2 rfl 22 (.bool (!x.ch))
  simp only [List.set_cons_zero, List.set_cons_succ] at M
  rw [show x.c.setIfInBounds 22 (.bool (!x.ch)) = x.turned.c from seg_put (L := x.segs) (i := 8) rfl (B11.at8 hx)] at M
  go_upto_region 7 with fail
  clear c1 c2 c3
  change Code.wp _ _ _ _ (W5.setCell ⟨gt, 22, none⟩ (.bool (!x.ch)))
  generalize W5.setCell ⟨gt, 22, none⟩ (.bool (!x.ch)) = W6 at M ⊢
  have r2 := M.row 2 rfl
  go_wp2_with (first
    | (refine wpList_load_row rfl 24 (.tmp 9) rfl gt rfl 24 x.turned.c (0, 0) _ r2 Try.underlying24 rfl (r11_info hxt) ?_))
  refine (HOT.out _).mono ?_
  rintro e w6 ⟨rfl, hb6⟩
  replace M := M.step hb6
  clear hb6
  clear r2
  go_wp2_with fail
  refine (HT.out _).mono ?_
  rintro e w7 ⟨rfl, hb7⟩
  replace M := M.step hb7
  clear hb7
  go_upto_region 8 with fail
  refine wp_region_noPanic ?_
  refine wp_region_flow (fin := ?fin1) 33 0 (by kernel_rfl) [.inl (.string T),
    .inl (.string U),
    .inl (.bool q),
    .inl (.agg x.c),
    .inl (.agg y.c),
    .inl (.bool q),
    .inl (.bool true),
    .inl (.bool true),
    .inl (.int .i64 0),
    .inl (.bool true),
    .inl (.bool true),
    .inl (.bool true),
    .inl (.string V),
    .inl (.string (V.extract 0 7)),
    .inl (.string T),
    .inl (.string (T.extract 0 7)),
    .inl (.bool true),
    .inl (.bool true),
    .inl (.bool true),
    .inl (.string V),
    .inl (.string (V.extract 8 V.size)),
    .inl (.string T),
    .inl (.string (T.extract 8 T.size)),
    .inl (.bool true),
    .inl (.bool true),
    .inl (.bool true),
    .inl (.string V),
    .inl (.int .u8 (k1.toNat : Int)),
    .inl (.string T),
    .inl (.int .u8 (k2.toNat : Int)),
    .inl (.bool true),
    .inl (.bool true),
    .inl (.bool true)] rfl rfl (by kernel_rfl) ?hfin1 ?hE1 ?hend1
  case hfin1 =>
    intro G
    simp only [flowAll, flowVal, Act.put, List.setIfInBounds_toArray, List.set_cons_zero, List.set_cons_succ]
    exact rfl
  case hE1 =>
    intro G
    refine ⟨Or.inr (fun W hB hR => known_val rfl (by go_simp)),
      Or.inr (fun W hB hR => known_val rfl (by go_simp)),
      Or.inr (fun W hB hR => known_val rfl (by exact exec_eqS (.tmp 46) (.tmp 47) _ _ q HE.out.1 rfl rfl rfl)),
      Or.inr (fun W hB hR => known_val rfl (by exact exec_load_row 24 (.tmp 2) ga ((M.drew.step hB).row 0 rfl) Try.underlying24 rfl (r11_info hx) rfl rfl)),
      Or.inr (fun W hB hR => known_val rfl (by exact exec_load_row 24 (.tmp 3) gb ((M.drew.step hB).row 1 rfl) Try.underlying24 rfl (r11_info hy) rfl rfl)),
      Or.inr (fun W hB hR => known_val rfl (by exact exec_same11r x y hx hw hy hv q HQ.out (.tmp 49) (.tmp 50) rfl rfl rfl)),
      Or.inr (fun W hB hR => known_val rfl (by go_simp)),
      Or.inr (fun W hB hR => known_val rfl (by go_simp)),
      Or.inr (fun W hB hR => known_val rfl (by go_simp)),
      Or.inr (fun W hB hR => known_val rfl (by go_simp)),
      Or.inr (fun W hB hR => known_val rfl (by go_simp)),
      Or.inr (fun W hB hR => known_val rfl (by go_simp)),
      Or.inr (fun W hB hR => known_val rfl (by go_simp)),
      Or.inr (fun W hB hR => known_val rfl (by go_simp)),
      Or.inr (fun W hB hR => known_val rfl (by go_simp)),
      Or.inr (fun W hB hR => known_val rfl (by go_simp)),
      Or.inr (fun W hB hR => known_val rfl (by exact exec_eqS (.tmp 59) (.tmp 61) _ _ true HE.out.2.1 rfl rfl rfl)),
      Or.inr (fun W hB hR => known_val rfl (by go_simp)),
      Or.inr (fun W hB hR => known_val rfl (by go_simp)),
      Or.inr (fun W hB hR => known_val rfl (by go_simp)),
      Or.inr (fun W hB hR => known_val rfl (by go_simp <;> (intro h9; omega))),
      Or.inr (fun W hB hR => known_val rfl (by go_simp)),
      Or.inr (fun W hB hR => known_val rfl (by go_simp <;> (intro h9; omega))),
      Or.inr (fun W hB hR => known_val rfl (by exact exec_eqS (.tmp 66) (.tmp 68) _ _ true HE.out.2.2 rfl rfl rfl)),
      Or.inr (fun W hB hR => known_val rfl (by go_simp)),
      Or.inr (fun W hB hR => known_val rfl (by go_simp)),
      Or.inr (fun W hB hR => known_val rfl (by go_simp)),
      Or.inr (fun W hB hR => known_val rfl (by rw [← HF.out.1]; exact exec_index (.tmp 72) (.const (.int .i64 7)) V 7 (by omega) rfl rfl rfl)),
      Or.inr (fun W hB hR => known_val rfl (by go_simp)),
      Or.inr (fun W hB hR => known_val rfl (by rw [← HF.out.2.1]; exact exec_index (.tmp 74) (.const (.int .i64 7)) T 7 (by omega) rfl rfl rfl)),
      Or.inr (fun W hB hR => known_val rfl (by have h9 := HF.out.2.2; go_simp)),
      Or.inr (fun W hB hR => known_val rfl (by go_simp)),
      Or.inr (fun W hB hR => known_val rfl (by go_simp)), trivial⟩
  intro G W hB hM
  replace M := M.drew.step hB
  clear hB hM G
  refine wpAny_end (by kernel_rfl) ?_ _
  refine NoPanic.normal ?_
  go_wp2
  go_ret
  exact ⟨rfl, M.below⟩
theorem flags11_any (x y : B11) (hx : x.Fit) (hw : x.Wf) (hy : y.Fit) (hv : y.Wf) (w : World) : Calls Try.prog 7 #[.agg x.c, .agg y.c] w fun e w' => e = .returned (.bool true) ∧ Below w.heap.size w w' := by
  cases rx : x.right with
  | false => exact flags11_nox x y hx hy rx w
  | true =>
    cases ry : y.right with
    | false => exact flags11_one x y hx hy rx ry w
    | true => exact flags11_both x y hx hw hy hv rx ry w
end Go.Proofs.Ytingcoojhfadgaa
