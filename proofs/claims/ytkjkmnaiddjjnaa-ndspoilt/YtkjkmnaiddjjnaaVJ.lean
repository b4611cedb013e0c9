/- ether.tagOf, Print; the law's Of, Plain, awake: walked. -/
import Derived.Test.YtkjkmnaiddjjnaaVD
namespace Go.Proofs.Ytkjkmnaiddjjnaa
open Go.RowKit
theorem six_cases {x : E8} (h : x.Six) : ∃ a0 a1 a2 a3 a4 a5 b0 b1 b2 b3 b4 b5, x.d = [a0, a1, a2, a3, a4, a5] ∧ x.s = [b0, b1, b2, b3, b4, b5] := by
  obtain ⟨hd, hs⟩ := h
  match x.d, x.s, hd, hs with
  | [a0, a1, a2, a3, a4, a5], [b0, b1, b2, b3, b4, b5], _, _ => exact ⟨a0, a1, a2, a3, a4, a5, b0, b1, b2, b3, b4, b5, rfl, rfl⟩
theorem cells_of {x : E8} {a0 a1 a2 a3 a4 a5 b0 b1 b2 b3 b4 b5 : UInt8} (hd : x.d = [a0, a1, a2, a3, a4, a5]) (hs : x.s = [b0, b1, b2, b3, b4, b5]) :
    x.c = #[B8 a0, B8 a1, B8 a2, B8 a3, B8 a4, B8 a5, B8 b0, B8 b1, B8 b2, B8 b3, B8 b4, B8 b5, .int .i64 x.k, .string x.b, .int .i64 x.v, .int .i64 x.p] := by
  unfold E8.c; rw [hd, hs]; rfl
theorem two_nat (n : Nat) (h : n < 65536) (w : World) :
    Calls Try.prog 25 #[.int .i64 (n : Int)] w fun e w' => e = .returned (.string ⟨(beTail n 2).toArray⟩) ∧ Below w.heap.size w w' := by
  have hc := two_any (n : Int) (by omega) (by omega) w
  have e : numL (n : Int) 2 = beTail n 2 := by
    unfold numL
    rw [if_pos ⟨by omega, by show (n : Int) < 65536; omega⟩, Int.toNat_natCast]
  rw [e] at hc
  exact hc
/-- what a frame's tag is laid as -/
def tagL (V Q : Nat) : List UInt8 := beTail 33024 2 ++ beTail (Q * 8192 + V) 2
theorem or_tag (V Q : Nat) (hV : V < 8192) (hQ : Q < 8) : bits .or .i64 ((Q * 8192 : Nat) : Int) (V : Int) = ((Q * 8192 + V : Nat) : Int) := by
  rw [i64_or_small _ _ (by omega) (by omega), nat_join 13 (Q * 8192) V (by omega) hV]
set_option maxRecDepth 20000 in
set_option maxHeartbeats 1000000 in
theorem tagOf_tag (x : E8) (hx : x.Six) (V Q : Nat) (hV : V ≤ 4094) (hQ : Q ≤ 7) (hv : x.v = V) (hp : x.p = Q) (w : World) :
    Calls Try.prog 24 #[.agg x.c] w fun e w' => e = .returned (.string ⟨(tagL V Q).toArray⟩) ∧ Below w.heap.size w w' := by
  have M : Mem w [(w.heap.size, 46, x.c)] (w.alloc (.cells x.c 46)) := (Mem.init w).alloc _ rfl _ _
  have cv := (M.row 0 rfl).fv hx
  rw [hv] at cv
  have q1 := fun W => two_nat 33024 (by omega) W
  have q2 := fun W => two_nat (Q * 8192 + V) (by omega) W
  have ho := or_tag V Q (by omega) (by omega)
  obtain ⟨Z, hZ⟩ : ∃ Z, Q * 8192 = Z := ⟨_, rfl⟩
  have hsh : IntKind.i64.wrap ((Q : Int) * 8192) = (Z : Int) := by rw [IntWalk.i64_in _ (by omega)]; omega
  have hcat : (⟨(beTail 33024 2).toArray⟩ : ByteArray) ++ ⟨(beTail (Q * 8192 + V) 2).toArray⟩ = ⟨(tagL V Q).toArray⟩ := cat_str _ _
  have hne : ¬ (V : Int) = -1 := by omega
  have hl1 := beTail_length 33024 2
  have hl2 := beTail_length (Q * 8192 + V) 2
  generalize tagL V Q = R at hcat ⊢
  generalize Q * 8192 + V = T at q2 ho hcat hl2
  rw [hZ] at ho
  generalize beTail 33024 2 = X at q1 hcat hl1
  generalize beTail T 2 = Y at q2 hcat hl2
  have Q1 := Lib.hid q1
  have Q2 := Lib.hid q2
  have HX := Lib.hid (And.intro hl1 hl2)
  have HP := Lib.hid (And.intro hv hp)
  clear q1 q2 hl1 hl2 hp hv hZ
  go_enter Try.func24, Try.ntmps24
  go_upto_region 3 with fail
  clear cv
  generalize w.alloc (.cells x.c 46) = W0 at M ⊢
  refine wp_region_noPanic ?_
  refine wp_region_flow (fin := ?fin1) 10 0 (by kernel_rfl) [.inl (.string ⟨X.toArray⟩),
    .inl (.pointer (some ⟨w.heap.size, 15, none⟩)),
    .inl (.int .i64 (Q : Int)),
    .inl (.int .i64 (Z : Int)),
    .inl (.pointer (some ⟨w.heap.size, 14, none⟩)),
    .inl (.int .i64 (V : Int)),
    .inl (.int .i64 (T : Int)),
    .inl (.string ⟨Y.toArray⟩),
    .inl (.string ⟨R.toArray⟩),
    .inl (.string ⟨R.toArray⟩)] rfl rfl (by kernel_rfl) ?hfin1 ?hE1 ?hend1
  case hfin1 =>
    intro G
    simp only [flowAll, flowVal, Act.put, List.setIfInBounds_toArray, List.set_cons_zero, List.set_cons_succ]
    exact rfl
  case hE1 =>
    intro G
    refine ⟨Or.inr (fun W hB hR => known_call 25 #[.int .i64 33024] (Q1.out W) rfl (by go_simp)),
      Or.inr (fun W hB hR => known_val rfl (by go_simp)),
      Or.inr (fun W hB hR => known_val rfl (by have := ((M.drew.step hB).row 0 rfl).fp hx; rw [HP.out.2] at this; go_simp)),
      Or.inr (fun W hB hR => known_val rfl (by go_simp)),
      Or.inr (fun W hB hR => known_val rfl (by go_simp)),
      Or.inr (fun W hB hR => known_val rfl (by have := ((M.drew.step hB).row 0 rfl).fv hx; rw [HP.out.1] at this; go_simp)),
      Or.inr (fun W hB hR => known_val rfl (by go_simp)),
      Or.inr (fun W hB hR => known_call 25 #[.int .i64 (T : Int)] (Q2.out W) rfl (by go_simp)),
      Or.inr (fun W hB hR => known_val rfl (by exact exec_cat (.tmp 6) (.tmp 13) _ _ _ hcat (by rw [str_size, str_size, HX.out.1, HX.out.2]; omega) rfl rfl rfl)),
      Or.inr (fun W hB hR => known_val rfl (by go_simp)), trivial⟩
  intro G W hB hM
  replace M := M.drew.step hB
  clear hB hM G
  refine wpAny_end (by kernel_rfl) ?_ _
  refine NoPanic.normal ?_
  go_wp2
  go_ret
  exact ⟨rfl, M.below⟩
theorem tagOf_none (x : E8) (hx : x.Six) (hv : x.v = -1) (w : World) : Calls Try.prog 24 #[.agg x.c] w fun e w' => e = .returned (.string ⟨([] : List UInt8).toArray⟩) ∧ Below w.heap.size w w' := by
  have M : Mem w [(w.heap.size, 46, x.c)] (w.alloc (.cells x.c 46)) := (Mem.init w).alloc _ rfl _ _
  have cv := (M.row 0 rfl).fv hx
  rw [hv] at cv
  have HM := Lib.hid M.below
  clear M
  go_enter Try.func24, Try.ntmps24
  go_wp2
  go_ret
  exact ⟨rfl, HM.out⟩
theorem print_no (x : E8) (hx : x.Six) (hr : x.right = false) (w : World) : Calls Try.prog 14 #[.agg x.c] w fun e w' => e = .returned (.tuple #[.string ⟨#[]⟩, .int .i64 3]) ∧ Below w.heap.size w w' := by
  have M : Mem w [(w.heap.size, 46, x.c)] (w.alloc (.cells x.c 46)) := (Mem.init w).alloc _ rfl _ _
  have r0 := M.row 0 rfl
  have h1 := fun W => right_any x hx W
  rw [hr] at h1
  have H1 := Lib.hid h1
  have HM := Lib.hid M
  clear h1 hr M
  go_enter Try.func14, Try.ntmps14
  go_wp2_with (first
    | (refine wpList_load_row rfl 46 (.tmp 1) rfl w.heap.size rfl 46 x.c (0, 0) _ r0 Try.underlying46 rfl (e8_info hx) ?_)
    | (go_at_call 23; refine (H1.out _).mono ?_; rintro e w1 ⟨rfl, hb1⟩))
  go_ret2
  exact ⟨rfl, (HM.out.step hb1).below⟩
/-- a frame's bytes: K is what stands for its type, T its tag's bytes -/
theorem print_yes (x : E8) (hx : x.Six) (hr : x.right = true) (K : Nat) (hK : K < 65536) (hk : (x.k = 0 ∧ x.b.size = K) ∨ (x.k ≠ 0 ∧ x.k = K)) (T : List UInt8) (hT : T.length ≤ 4)
    (ht : ∀ W, Calls Try.prog 24 #[.agg x.c] W fun e w' => e = .returned (.string ⟨T.toArray⟩) ∧ Below W.heap.size W w') (hb : x.b.size ≤ 1500) (R : List UInt8) (hR : x.d ++ x.s ++ T ++ beTail K 2 ++ x.b.data.toList = R) (w : World) :
    Calls Try.prog 14 #[.agg x.c] w fun e w' => e = .returned (.tuple #[.string ⟨R.toArray⟩, .int .i64 0]) ∧ Below w.heap.size w w' := by
  have M : Mem w [(w.heap.size, 46, x.c)] (w.alloc (.cells x.c 46)) := (Mem.init w).alloc _ rfl _ _
  have r0 := M.row 0 rfl
  have h1 := fun W => right_any x hx W
  rw [hr] at h1
  have h2 := fun W => two_nat K hK W
  have hl2 := beTail_length K 2
  generalize beTail K 2 = Y at h2 hl2 hR
  have hc1 : (⟨x.d.toArray⟩ : ByteArray) ++ ⟨x.s.toArray⟩ = ⟨(x.d ++ x.s).toArray⟩ := cat_str _ _
  have hc2 : (⟨(x.d ++ x.s).toArray⟩ : ByteArray) ++ ⟨T.toArray⟩ = ⟨(x.d ++ x.s ++ T).toArray⟩ := cat_str _ _
  have hc3 : (⟨(x.d ++ x.s ++ T).toArray⟩ : ByteArray) ++ ⟨Y.toArray⟩ = ⟨(x.d ++ x.s ++ T ++ Y).toArray⟩ := cat_str _ _
  have hc4 : (⟨(x.d ++ x.s ++ T ++ Y).toArray⟩ : ByteArray) ++ x.b = ⟨R.toArray⟩ := by
    rw [← hR]
    have := cat_str (x.d ++ x.s ++ T ++ Y) x.b.data.toList
    rw [str_of] at this
    exact this
  have hld := hx.d
  have hls := hx.s
  have hs1 : (x.d ++ x.s).length = 12 := by rw [List.length_append]; omega
  have hs2 : (x.d ++ x.s ++ T).length ≤ 16 := by rw [List.length_append]; omega
  have hs3 : (x.d ++ x.s ++ T ++ Y).length ≤ 18 := by rw [List.length_append]; omega
  obtain ⟨A1, hA1⟩ : ∃ A1, x.d ++ x.s = A1 := ⟨_, rfl⟩
  obtain ⟨A2, hA2⟩ : ∃ A2, A1 ++ T = A2 := ⟨_, rfl⟩
  obtain ⟨A3, hA3⟩ : ∃ A3, A2 ++ Y = A3 := ⟨_, rfl⟩
  rw [hA1] at hc1 hc2 hc3 hc4 hs1 hs2 hs3
  rw [hA2] at hc2 hc3 hc4 hs2 hs3
  rw [hA3] at hc3 hc4 hs3
  have HCAT := Lib.hid (And.intro hc1 (And.intro hc2 (And.intro hc3 hc4)))
  have HLEN := Lib.hid (And.intro hs1 (And.intro hs2 hs3))
  have HL2 := Lib.hid (And.intro hl2 (And.intro hld (And.intro hls (And.intro hb hT))))
  have H1 := Lib.hid h1
  have H2 := Lib.hid h2
  have HT := Lib.hid ht
  have ck := r0.fk hx
  have cb := r0.fb hx
  have HM := Lib.hid M
  clear h1 h2 hr M ht hc1 hc2 hc3 hc4 hs1 hs2 hs3 hR hA1 hA2 hA3 hl2 hld hls hb hT
  rcases hk with ⟨hk, hsz⟩ | ⟨hk, hsz⟩
  · rw [hk] at ck
    go_enter Try.func14, Try.ntmps14
    go_upto_region 3 with (first
      | (refine wpList_load_row rfl 46 (.tmp 1) rfl w.heap.size rfl 46 x.c (0, 0) _ r0 Try.underlying46 rfl (e8_info hx) ?_)
      | (go_at_call 23; refine (H1.out _).mono ?_; rintro e w1 ⟨rfl, hb1⟩))
    have M := HM.out.step hb1
    clear ck cb r0 HM hb1
    have ck := (M.row 0 rfl).fk hx
    have cb := (M.row 0 rfl).fb hx
    rw [hk] at ck
    go_upto_region 6 with fail
    clear ck cb
    refine wp_region_noPanic ?_
    refine wp_region_flow (fin := ?fin2) 21 0 (by kernel_rfl) [.inl (.pointer (some ⟨w.heap.size, 0, none⟩)),
      .inl (.pointer (some ⟨w.heap.size, 0, none⟩)),
      .inl (.slice (some ⟨w.heap.size, 0, none⟩) 6 6),
      .inl (.string ⟨x.d.toArray⟩),
      .inl (.pointer (some ⟨w.heap.size, 0, none⟩)),
      .inl (.pointer (some ⟨w.heap.size, 6, none⟩)),
      .inl (.slice (some ⟨w.heap.size, 6, none⟩) 6 6),
      .inl (.string ⟨x.s.toArray⟩),
      .inl (.string ⟨A1.toArray⟩),
      .inl (.agg x.c),
      .inl (.string ⟨T.toArray⟩),
      .inl (.string ⟨A2.toArray⟩),
      .inl (.int .i64 (K : Int)),
      .inl (.string ⟨Y.toArray⟩),
      .inl (.string ⟨A3.toArray⟩),
      .inl (.pointer (some ⟨w.heap.size, 0, none⟩)),
      .inl (.pointer (some ⟨w.heap.size, 13, none⟩)),
      .inl (.string x.b),
      .inl (.string ⟨R.toArray⟩),
      .inl (.string ⟨R.toArray⟩),
      .inl (.int .i64 0)] rfl rfl (by kernel_rfl) ?hfin2 ?hE2 ?hend2
    case hfin2 =>
      intro G
      simp only [flowAll, flowVal, Act.put, List.setIfInBounds_toArray, List.set_cons_zero, List.set_cons_succ]
      exact rfl
    case hE2 =>
      intro G
      refine ⟨Or.inr (fun W hB hR => known_val rfl (by go_simp)),
        Or.inr (fun W hB hR => known_val rfl (by go_simp)),
        Or.inr (fun W hB hR => known_val rfl (by go_simp)),
        Or.inr (fun W hB hR => known_val rfl (by have := conv_range (((M.drew.step hB).row 0 rfl).rd) 6 6 HL2.out.2.1; go_simp)),
        Or.inr (fun W hB hR => known_val rfl (by go_simp)),
        Or.inr (fun W hB hR => known_val rfl (by go_simp)),
        Or.inr (fun W hB hR => known_val rfl (by go_simp)),
        Or.inr (fun W hB hR => known_val rfl (by have := conv_range (((M.drew.step hB).row 0 rfl).rs hx) 6 6 HL2.out.2.2.1; go_simp)),
        Or.inr (fun W hB hR => known_val rfl (by exact exec_cat (.tmp 20) (.tmp 24) _ _ _ HCAT.out.1 (by rw [str_size, str_size, HL2.out.2.1, HL2.out.2.2.1]; omega) rfl rfl rfl)),
        Or.inr (fun W hB hR => known_val rfl (by exact exec_load_row 46 (.tmp 1) w.heap.size ((M.drew.step hB).row 0 rfl) Try.underlying46 rfl (e8_info hx) rfl rfl)),
        Or.inr (fun W hB hR => known_call 24 #[.agg x.c] (HT.out W) rfl (by go_simp)),
        Or.inr (fun W hB hR => known_val rfl (by exact exec_cat (.tmp 25) (.tmp 27) _ _ _ HCAT.out.2.1 (by have := HL2.out; have := HLEN.out; rw [str_size, str_size]; omega) rfl rfl rfl)),
        Or.inr (fun W hB hR => known_val rfl (by go_simp)),
        Or.inr (fun W hB hR => known_call 25 #[.int .i64 (K : Int)] (H2.out W) rfl (by go_simp)),
        Or.inr (fun W hB hR => known_val rfl (by exact exec_cat (.tmp 28) (.tmp 30) _ _ _ HCAT.out.2.2.1 (by have := HL2.out; have := HLEN.out; rw [str_size, str_size]; omega) rfl rfl rfl)),
        Or.inr (fun W hB hR => known_val rfl (by go_simp)),
        Or.inr (fun W hB hR => known_val rfl (by go_simp)),
        Or.inr (fun W hB hR => known_val rfl (by have := ((M.drew.step hB).row 0 rfl).fb hx; go_simp)),
        Or.inr (fun W hB hR => known_val rfl (by exact exec_cat (.tmp 31) (.tmp 34) _ _ _ HCAT.out.2.2.2 (by have := HL2.out; have := HLEN.out; rw [str_size]; omega) rfl rfl rfl)),
        Or.inr (fun W hB hR => known_val rfl (by go_simp)),
        Or.inr (fun W hB hR => known_val rfl (by go_simp)), trivial⟩
    intro G W hB hM
    replace M := M.drew.step hB
    clear hB hM G
    refine wpAny_end (by kernel_rfl) ?_ _
    refine NoPanic.normal ?_
    go_wp2
    go_ret2
    exact ⟨rfl, M.below⟩
  · rw [hsz] at ck
    have hk0 : ¬ (K : Int) = 0 := by omega
    go_enter Try.func14, Try.ntmps14
    go_upto_region 3 with (first
      | (refine wpList_load_row rfl 46 (.tmp 1) rfl w.heap.size rfl 46 x.c (0, 0) _ r0 Try.underlying46 rfl (e8_info hx) ?_)
      | (go_at_call 23; refine (H1.out _).mono ?_; rintro e w1 ⟨rfl, hb1⟩))
    have M := HM.out.step hb1
    clear ck cb r0 HM hb1
    have ck := (M.row 0 rfl).fk hx
    have cb := (M.row 0 rfl).fb hx
    rw [hsz] at ck
    go_upto_region 6 with fail
    clear ck cb
    refine wp_region_noPanic ?_
    refine wp_region_flow (fin := ?fin3) 21 0 (by kernel_rfl) [.inl (.pointer (some ⟨w.heap.size, 0, none⟩)),
      .inl (.pointer (some ⟨w.heap.size, 0, none⟩)),
      .inl (.slice (some ⟨w.heap.size, 0, none⟩) 6 6),
      .inl (.string ⟨x.d.toArray⟩),
      .inl (.pointer (some ⟨w.heap.size, 0, none⟩)),
      .inl (.pointer (some ⟨w.heap.size, 6, none⟩)),
      .inl (.slice (some ⟨w.heap.size, 6, none⟩) 6 6),
      .inl (.string ⟨x.s.toArray⟩),
      .inl (.string ⟨A1.toArray⟩),
      .inl (.agg x.c),
      .inl (.string ⟨T.toArray⟩),
      .inl (.string ⟨A2.toArray⟩),
      .inl (.int .i64 (K : Int)),
      .inl (.string ⟨Y.toArray⟩),
      .inl (.string ⟨A3.toArray⟩),
      .inl (.pointer (some ⟨w.heap.size, 0, none⟩)),
      .inl (.pointer (some ⟨w.heap.size, 13, none⟩)),
      .inl (.string x.b),
      .inl (.string ⟨R.toArray⟩),
      .inl (.string ⟨R.toArray⟩),
      .inl (.int .i64 0)] rfl rfl (by kernel_rfl) ?hfin3 ?hE3 ?hend3
    case hfin3 =>
      intro G
      simp only [flowAll, flowVal, Act.put, List.setIfInBounds_toArray, List.set_cons_zero, List.set_cons_succ]
      exact rfl
    case hE3 =>
      intro G
      refine ⟨Or.inr (fun W hB hR => known_val rfl (by go_simp)),
        Or.inr (fun W hB hR => known_val rfl (by go_simp)),
        Or.inr (fun W hB hR => known_val rfl (by go_simp)),
        Or.inr (fun W hB hR => known_val rfl (by have := conv_range (((M.drew.step hB).row 0 rfl).rd) 6 6 HL2.out.2.1; go_simp)),
        Or.inr (fun W hB hR => known_val rfl (by go_simp)),
        Or.inr (fun W hB hR => known_val rfl (by go_simp)),
        Or.inr (fun W hB hR => known_val rfl (by go_simp)),
        Or.inr (fun W hB hR => known_val rfl (by have := conv_range (((M.drew.step hB).row 0 rfl).rs hx) 6 6 HL2.out.2.2.1; go_simp)),
        Or.inr (fun W hB hR => known_val rfl (by exact exec_cat (.tmp 20) (.tmp 24) _ _ _ HCAT.out.1 (by rw [str_size, str_size, HL2.out.2.1, HL2.out.2.2.1]; omega) rfl rfl rfl)),
        Or.inr (fun W hB hR => known_val rfl (by exact exec_load_row 46 (.tmp 1) w.heap.size ((M.drew.step hB).row 0 rfl) Try.underlying46 rfl (e8_info hx) rfl rfl)),
        Or.inr (fun W hB hR => known_call 24 #[.agg x.c] (HT.out W) rfl (by go_simp)),
        Or.inr (fun W hB hR => known_val rfl (by exact exec_cat (.tmp 25) (.tmp 27) _ _ _ HCAT.out.2.1 (by have := HL2.out; have := HLEN.out; rw [str_size, str_size]; omega) rfl rfl rfl)),
        Or.inr (fun W hB hR => known_val rfl (by go_simp)),
        Or.inr (fun W hB hR => known_call 25 #[.int .i64 (K : Int)] (H2.out W) rfl (by go_simp)),
        Or.inr (fun W hB hR => known_val rfl (by exact exec_cat (.tmp 28) (.tmp 30) _ _ _ HCAT.out.2.2.1 (by have := HL2.out; have := HLEN.out; rw [str_size, str_size]; omega) rfl rfl rfl)),
        Or.inr (fun W hB hR => known_val rfl (by go_simp)),
        Or.inr (fun W hB hR => known_val rfl (by go_simp)),
        Or.inr (fun W hB hR => known_val rfl (by have := ((M.drew.step hB).row 0 rfl).fb hx; go_simp)),
        Or.inr (fun W hB hR => known_val rfl (by exact exec_cat (.tmp 31) (.tmp 34) _ _ _ HCAT.out.2.2.2 (by have := HL2.out; have := HLEN.out; rw [str_size]; omega) rfl rfl rfl)),
        Or.inr (fun W hB hR => known_val rfl (by go_simp)),
        Or.inr (fun W hB hR => known_val rfl (by go_simp)), trivial⟩
    intro G W hB hM
    replace M := M.drew.step hB
    clear hB hM G
    refine wpAny_end (by kernel_rfl) ?_ _
    refine NoPanic.normal ?_
    go_wp2
    go_ret2
    exact ⟨rfl, M.below⟩
end Go.Proofs.Ytkjkmnaiddjjnaa
