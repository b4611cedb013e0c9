/- causeyref04.Sum: walked. -/
import Derived.Test.YtfhjokbbaoldiaaIE
import Derived.Test.YtfhjokbbaoldiaaPJ
namespace Go.Proofs.Ytfhjokbbaoldiaa
open Go.RowKit
theorem infoA32 (l : List UInt8) (hl : l.length = 32) : (Try.prog.info? 22).map (·.size) = some (bs l).size := by
  rw [bs_size, hl]; exact (by kernel_rfl : (Try.prog.info? 22).map (·.size) = some 32)
theorem clampI_drop (k : List UInt8) (hk : k.length = 32) : (clampL k).drop 16 = k.drop 16 := by
  apply List.ext_getElem (by rw [List.length_drop, List.length_drop, clampL_length])
  intro i h1 h2
  have h := clampL_getD k (by omega) (16 + i)
  unfold clF at h
  rw [if_neg (by omega), if_neg (by omega)] at h
  rw [List.length_drop] at h1 h2
  rw [List.getElem_drop, List.getElem_drop]
  have e1 : 16 + i < (clampL k).length := by omega
  have e2 : 16 + i < k.length := by omega
  simpa [List.getD_eq_getElem?_getD, e1, e2] using h
/-- bytes as digits -/
def dB (l : List UInt8) : List Nat := l.map UInt8.toNat
theorem dB_length (l : List UInt8) : (dB l).length = l.length := by unfold dB; rw [List.length_map]
theorem dB_dig (l : List UInt8) : Dig 256 (dB l) := bytes_dig l
theorem dB_getD (l : List UInt8) (i : Nat) (h : i < l.length) : (dB l).getD i 0 = (l.getD i 0).toNat := by
  unfold dB
  rw [List.getD_eq_getElem?_getD, List.getElem?_map, List.getD_eq_getElem?_getD, List.getElem?_eq_getElem h]
  rfl
theorem blk_num (l : List UInt8) (j : Nat) : num 256 (dB (blkL l j) ++ [1]) = blkN l j := by
  rw [num_snoc, dB_length, Nat.one_mul]; rfl
theorem blk_get (s : ByteArray) (j q : Nat) (h : 16 * j + q < s.size) (hq : q < 16) : (dB (blkL s.data.toList j)).getD q 0 = (bAt s (16 * j + q)).toNat := by
  rw [dB_getD _ _ (by unfold blkL; rw [List.length_take, List.length_drop, len_list]; omega)]
  unfold blkL bAt
  rw [List.getD_eq_getElem?_getD, List.getElem?_take_of_lt hq, List.getElem?_drop, ← List.getD_eq_getElem?_getD]
theorem blk_len (s : ByteArray) (j : Nat) : (dB (blkL s.data.toList j)).length = min 16 (s.size - 16 * j) := by
  rw [dB_length]; unfold blkL; rw [List.length_take, List.length_drop, len_list]
/-- what memory holds in the midst of the document's sum -/
def UEnv (w : World) (k : List UInt8) (vr : Value) (W : World) : Prop :=
  Has W w.heap.size 22 (bs k) ∧ Has W (w.heap.size + 1) 42 zb16 ∧ Rd W.heap.size W vr (rL k) ∧ Below w.heap.size w W
theorem UEnv.step {w : World} {k : List UInt8} {vr : Value} {W W' : World} (h : UEnv w k vr W) (hb : Below W.heap.size W W') : UEnv w k vr W' :=
  ⟨h.1.below hb h.1.lt, h.2.1.below hb h.2.1.lt, (h.2.2.1.step hb).mono hb.size, h.2.2.2.trans (hb.mono h.2.2.2.size)⟩
set_option maxRecDepth 20000 in
set_option maxHeartbeats 4000000 in
theorem refSum_any (k : List UInt8) (hk : k.length = 32) (s : ByteArray) (hs : s.size ≤ 1000000) (w : World) :
    Calls Try.prog 28 #[.agg (bs k), .string s] w fun e w' => e = .returned (.agg (bs (polyL k s.data.toList))) ∧ Below w.heap.size w w' := by
  have HCL := Lib.hid (refClamp_any k hk)
  have HKL := Lib.hid hk
  obtain ⟨R, hR⟩ : ∃ R, R = polyL k s.data.toList := ⟨_, rfl⟩
  rw [← hR]
  have hRN : R = lowB (acc (num 256 (rL k)) s.data.toList ((s.size + 15) / 16) + nb (k.drop 16)) 16 := by
    rw [hR]; unfold polyL polyN; rw [len_list, clampI_drop k hk]; rfl
  have hlR : R.length = 16 := by rw [hR]; exact lowB_length _ _
  have HRN := Lib.hid hRN
  have HLR := Lib.hid hlR
  obtain ⟨r, hr⟩ : ∃ r, r = num 256 (rL k) := ⟨_, rfl⟩
  rw [← hr] at HRN
  have HRR := Lib.hid (And.intro hr (And.intro (rL_dig k) (rL_length k hk)))
  clear hR hRN hlR hk hr
  have hE := two_new w (bs k) zb16 22 42
  go_enter Try.func28, Try.ntmps28
  go_upto_region 1 with fail
  change Code.wp _ _ _ _ ((w.alloc (.cells (bs k) 22)).alloc (.cells zb16 42))
  generalize (w.alloc (.cells (bs k) 22)).alloc (.cells zb16 42) = w0 at hE ⊢
  obtain ⟨i1, i2, hb⟩ := hE
  go_wp2_with (refine wpList_load_row rfl 22 (.tmp 2) rfl w.heap.size rfl 22 (bs k) (0, 0) _ i1 Try.underlying22 rfl (infoA32 k HKL.out) ?_)
  go_at_call 43
  refine (HCL.out _).mono ?_
  rintro e w1 ⟨vr, rfl, hrr, hb1⟩
  have E : UEnv w k vr w1 := ⟨i1.below hb1 i1.lt, i2.below hb1 i2.lt, hrr, hb.trans (hb1.mono hb.size)⟩
  clear hb1 hb i1 i2 hrr w0 HCL
  have hA0 : Rd (w1.alloc (.cells #[I64 0] 3)).heap.size (w1.alloc (.cells #[I64 0] 3)) (.slice (some ⟨w1.heap.size, 0, none⟩) 1 1) [0] :=
    Has.rdI (l := [0]) (Has.fresh w1 3 _)
  have E1 := E.step ((Below.refl _ _).alloc (Nat.le_refl _) (.cells #[I64 0] 3))
  have HA0 := Lib.hid hA0
  have HE1 := Lib.hid E1
  clear hA0 E E1
  go_wp2_with fail
  go_loopw [6, 7] (fun av tv wr => ∃ (j : Nat) (A : List Nat), 16 * j < s.size + 16 ∧ tv = .int .i64 ((16 * j : Nat) : Int) ∧ Rd wr.heap.size wr av A ∧ Dig 256 A ∧ num 256 A = acc r s.data.toList j ∧ 0 < A.length ∧ A.length ≤ 17 ∧ UEnv w k vr wr) (fun _ tv _ => s.size + 16 - (intOf tv).toNat)
  case atStart => exact ⟨0, [0], by omega, rfl, HA0.out, Dig.one (by omega), rfl, by simp, by simp, HE1.out⟩
  case round =>
    clear HA0 HE1
    obtain ⟨j, A, hj, rfl, hrdA, dA, nA, lA0, lA1, E⟩ := hrel
    by_cases hlt : 16 * j < s.size
    · have t1 : decide (((16 * j : Nat) : Int) < (s.size : Int)) = true := by simp; omega
      generalize wr = W0 at *
      have hbl := blk_len s j
      have dBk := dB_dig (blkL s.data.toList j)
      have hnb := blk_num s.data.toList j
      have hget := fun q h hq => blk_get s j q h hq
      generalize dB (blkL s.data.toList j) = bl at hbl dBk hnb hget
      obtain ⟨lb, hlb⟩ : ∃ lb, lb = min 16 (s.size - 16 * j) := ⟨_, rfl⟩
      rw [← hlb] at hbl
      have hlb1 : lb ≤ 16 := by omega
      have hlb2 : 16 * j + lb ≤ s.size := by omega
      have hlb3 : lb < 16 → s.size ≤ 16 * j + lb := by omega
      have hlb0 : 0 < lb := by omega
      have HBLK := Lib.hid (And.intro hbl (And.intro dBk hnb))
      have HGET := Lib.hid hget
      have HA := Lib.hid (And.intro hrdA (And.intro dA (And.intro nA (And.intro lA0 lA1))))
      have HE := Lib.hid E
      clear hbl dBk hnb hget hlb hrdA dA nA lA0 lA1 E
      have hs16 : IntKind.i64.wrap (((16 * j : Nat) : Int) + 16) = ((16 * j + 16 : Nat) : Int) := by rw [IntWalk.i64_in _ (by omega)]; omega
      generalize h16 : 16 * j = q0 at *
      go_wp2_with fail
      go_loopw [8, 9] (fun bv iv W => ∃ q : Nat, q ≤ lb ∧ iv = .int .i64 ((q0 + q : Nat) : Int) ∧ Ow W0.heap.size W bv (bl.take q) ∧ Below W0.heap.size W0 W) (fun _ iv _ => q0 + 16 - (intOf iv).toNat)
      case atStart => exact ⟨0, by omega, rfl, Ow.nil _ _, Below.refl _ _⟩
      case round =>
        obtain ⟨q, hq, rfl, how, hbW⟩ := hrel
        obtain ⟨ab, capb, rfl⟩ := how.form
        have hlt2 : (bl.take q).length = q := by rw [List.length_take, HBLK.out.1]; omega
        rw [hlt2] at how ⊢
        have HOW := Lib.hid how
        have HLT := Lib.hid hlt2
        clear how hlt2
        by_cases hql : q < lb
        · have t2 : decide (((q0 + q : Nat) : Int) < ((q0 + 16 : Nat) : Int)) = true := by simp; omega
          have t3 : decide (((q0 + q : Nat) : Int) < (s.size : Int)) = true := by simp; omega
          have hin : q0 + q < s.size := by omega
          have hin16 : q0 + q < q0 + 16 := by omega
          have htk := take_getD bl q (by rw [HBLK.out.1]; omega)
          rw [HGET.out q hin (by omega), ← bAt_eq s (q0 + q) hin] at htk
          generalize bl.take q = L at HOW HLT htk
          have hsl := (s[q0 + q]).toNat_lt
          have hw1 : IntKind.i64.wrap (((q0 + q : Nat) : Int) + 1) = ((q0 + (q + 1) : Nat) : Int) := by rw [IntWalk.i64_in _ (by omega)]; omega
          have HTK := Lib.hid htk
          have HBW := Lib.hid hbW
          clear htk hbW
          generalize hqq : q0 + q = p at *
          generalize hqq2 : q0 + (q + 1) = p2 at *
          go_wp2_with (at_builtin; refine wpList_app1 rfl (.tmp 36) (.tmp 41) rfl rfl (HOW.out.alloc _) wr.heap.size 1 (s[p].toNat) rfl ((Has.fresh wr 3 #[I64 (s[p].toNat)]).cell 0) (by rw [HLT.out]; omega) (by simp; have := HBW.out.size; omega) ?_; intro v2 w2 hown2 hb2; obtain ⟨a2, cap2, hv2⟩ := hown2.form; rw [hv2] at hown2 ⊢)
          go_roundw
          case rel => exact ⟨q + 1, by omega, by first | rw [hqq2] | (congr 1; omega) | omega, by rw [HTK.out]; rw [List.length_append] at hown2; exact hown2, (HBW.out.alloc HBW.out.size _).trans hb2⟩
          case measure => simp [intOf]; omega
        · have hqe : q = lb := by omega
          subst hqe
          rw [List.take_of_length_le (by rw [HBLK.out.1]; exact Nat.le_refl _)] at HOW HLT
          rcases Nat.lt_or_ge q 16 with hl16 | hl16
          · have t2 : decide (((q0 + q : Nat) : Int) < ((q0 + 16 : Nat) : Int)) = true := by simp; omega
            have t3 : decide (((q0 + q : Nat) : Int) < (s.size : Int)) = false := by simp; omega
            have hin : ¬ (q0 + q < s.size) := by omega
            have hin16 : q0 + q < q0 + 16 := by omega
            have hle1 : (bl ++ [1]).length = q + 1 := by rw [List.length_append, HBLK.out.1]; rfl
            have HL1 := Lib.hid hle1
            have HBW := Lib.hid hbW
            clear hbW hle1
            go_upto_region 12 with (at_builtin; refine wpList_app1 rfl (.tmp 43) (.tmp 44) rfl rfl (HOW.out.alloc _) wr.heap.size 1 1 rfl ((Has.fresh wr 3 #[I64 1]).cell 0) (by rw [HBLK.out.1]; omega) (by simp; have := HBW.out.size; omega) ?_; intro v2 w2 hown2 hb2; obtain ⟨a2, cap2, hv2⟩ := hown2.form; rw [hv2] at hown2 ⊢; rw [HL1.out] at hown2 ⊢)
            have hbA : Below W0.heap.size W0 w2 := (HBW.out.alloc HBW.out.size _).trans hb2
            have E2 := HE.out.step hbA
            have hrA := (HA.out.1.step hbA).mono hbA.size
            have hrB := hown2.rd
            have hP := plus_any A (bl ++ [1]) HA.out.2.1 (HBLK.out.2.1.append (Dig.one (by omega))) HA.out.2.2.2.1 (by rw [HL1.out]; omega) (by have := HA.out.2.2.2.2; omega) (by rw [HL1.out]; omega) _ _ w2 hrA hrB
            rw [HBLK.out.2.2, HA.out.2.2.1, HL1.out] at hP
            have HP := Lib.hid hP
            clear hP hrA hrB hown2 hb2 hbA HOW HBW
            go_wp2_with fail
            go_at_call 46
            refine HP.out.mono ?_
            rintro e w3 ⟨v3, o3, rfl, hr3, d3, n3, l31, l32, hb3⟩
            replace E2 := E2.step hb3
            have lA2 := HA.out.2.2.2.2
            have hT := times_any o3 (rL k) d3 HRR.out.2.1 (by omega) (by rw [HRR.out.2.2]; omega) (by omega) (by rw [HRR.out.2.2]; omega) _ _ w3 hr3 E2.2.2.1
            rw [n3, HRR.out.2.2, ← HRR.out.1] at hT
            have HT := Lib.hid hT
            clear hT hb3 hr3 d3 n3 HP
            go_wp2_with fail
            go_at_call 45
            refine HT.out.mono ?_
            rintro e w4 ⟨v4, o4, rfl, hr4, l4, d4, n4, hb4⟩
            replace E2 := E2.step hb4
            have hR := refRest_any o4 d4 (by omega) (by omega) _ w4 hr4
            rw [n4] at hR
            have hac : (acc r s.data.toList j + blkN s.data.toList j) * r % 1361129467683753853853498429727072845819 = acc r s.data.toList (j + 1) := rfl
            rw [hac] at hR
            have HR2 := Lib.hid hR
            clear hR hb4 hr4 d4 n4 l4 HT hac
            go_wp2_with fail
            go_at_call 44
            refine HR2.out.mono ?_
            rintro e w5 ⟨v5, rfl, hr5, hb5⟩
            replace E2 := E2.step hb5
            have hacl := acc_lt r s.data.toList (j + 1)
            have hn5 : num 256 (dg 256 (acc r s.data.toList (j + 1)) 17) = acc r s.data.toList (j + 1) := by
              rw [num_dg, Nat.mod_eq_of_lt]
              exact Nat.lt_of_lt_of_le hacl (by decide)
            have HF := Lib.hid (And.intro hr5 (And.intro (dg_dig 256 (acc r s.data.toList (j + 1)) 17 (by omega)) (And.intro hn5 (And.intro (show 0 < (dg 256 (acc r s.data.toList (j + 1)) 17).length by rw [dg_length]; omega) (And.intro (show (dg 256 (acc r s.data.toList (j + 1)) 17).length ≤ 17 by rw [dg_length]; omega) E2)))))
            have hw16 : IntKind.i64.wrap ((q0 : Int) + 16) = ((16 * (j + 1) : Nat) : Int) := by rw [IntWalk.i64_in _ (by omega)]; omega
            clear hr5 hn5 E2 hb5 HR2 hacl
            go_wp2
            go_roundw
            case rel =>
              first
                | exact ⟨j + 1, _, by omega, by go_num, HF.out⟩
                | exact ⟨j + 1, _, by omega, by congr 1; omega, HF.out⟩
            case measure => simp [intOf]; omega
          · have t2 : decide (((q0 + q : Nat) : Int) < ((q0 + 16 : Nat) : Int)) = false := by simp; omega
            have hin16 : ¬ (q0 + q < q0 + 16) := by omega
            have hle1 : (bl ++ [1]).length = q + 1 := by rw [List.length_append, HBLK.out.1]; rfl
            have HL1 := Lib.hid hle1
            have HBW := Lib.hid hbW
            clear hbW hle1
            go_upto_region 12 with (at_builtin; refine wpList_app1 rfl (.tmp 43) (.tmp 44) rfl rfl (HOW.out.alloc _) wr.heap.size 1 1 rfl ((Has.fresh wr 3 #[I64 1]).cell 0) (by rw [HBLK.out.1]; omega) (by simp; have := HBW.out.size; omega) ?_; intro v2 w2 hown2 hb2; obtain ⟨a2, cap2, hv2⟩ := hown2.form; rw [hv2] at hown2 ⊢; rw [HL1.out] at hown2 ⊢)
            have hbA : Below W0.heap.size W0 w2 := (HBW.out.alloc HBW.out.size _).trans hb2
            have E2 := HE.out.step hbA
            have hrA := (HA.out.1.step hbA).mono hbA.size
            have hrB := hown2.rd
            have hP := plus_any A (bl ++ [1]) HA.out.2.1 (HBLK.out.2.1.append (Dig.one (by omega))) HA.out.2.2.2.1 (by rw [HL1.out]; omega) (by have := HA.out.2.2.2.2; omega) (by rw [HL1.out]; omega) _ _ w2 hrA hrB
            rw [HBLK.out.2.2, HA.out.2.2.1, HL1.out] at hP
            have HP := Lib.hid hP
            clear hP hrA hrB hown2 hb2 hbA HOW HBW
            go_wp2_with fail
            go_at_call 46
            refine HP.out.mono ?_
            rintro e w3 ⟨v3, o3, rfl, hr3, d3, n3, l31, l32, hb3⟩
            replace E2 := E2.step hb3
            have lA2 := HA.out.2.2.2.2
            have hT := times_any o3 (rL k) d3 HRR.out.2.1 (by omega) (by rw [HRR.out.2.2]; omega) (by omega) (by rw [HRR.out.2.2]; omega) _ _ w3 hr3 E2.2.2.1
            rw [n3, HRR.out.2.2, ← HRR.out.1] at hT
            have HT := Lib.hid hT
            clear hT hb3 hr3 d3 n3 HP
            go_wp2_with fail
            go_at_call 45
            refine HT.out.mono ?_
            rintro e w4 ⟨v4, o4, rfl, hr4, l4, d4, n4, hb4⟩
            replace E2 := E2.step hb4
            have hR := refRest_any o4 d4 (by omega) (by omega) _ w4 hr4
            rw [n4] at hR
            have hac : (acc r s.data.toList j + blkN s.data.toList j) * r % 1361129467683753853853498429727072845819 = acc r s.data.toList (j + 1) := rfl
            rw [hac] at hR
            have HR2 := Lib.hid hR
            clear hR hb4 hr4 d4 n4 l4 HT hac
            go_wp2_with fail
            go_at_call 44
            refine HR2.out.mono ?_
            rintro e w5 ⟨v5, rfl, hr5, hb5⟩
            replace E2 := E2.step hb5
            have hacl := acc_lt r s.data.toList (j + 1)
            have hn5 : num 256 (dg 256 (acc r s.data.toList (j + 1)) 17) = acc r s.data.toList (j + 1) := by
              rw [num_dg, Nat.mod_eq_of_lt]
              exact Nat.lt_of_lt_of_le hacl (by decide)
            have HF := Lib.hid (And.intro hr5 (And.intro (dg_dig 256 (acc r s.data.toList (j + 1)) 17 (by omega)) (And.intro hn5 (And.intro (show 0 < (dg 256 (acc r s.data.toList (j + 1)) 17).length by rw [dg_length]; omega) (And.intro (show (dg 256 (acc r s.data.toList (j + 1)) 17).length ≤ 17 by rw [dg_length]; omega) E2)))))
            have hw16 : IntKind.i64.wrap ((q0 : Int) + 16) = ((16 * (j + 1) : Nat) : Int) := by rw [IntWalk.i64_in _ (by omega)]; omega
            clear hr5 hn5 E2 hb5 HR2 hacl
            go_wp2
            go_roundw
            case rel =>
              first
                | exact ⟨j + 1, _, by omega, by go_num, HF.out⟩
                | exact ⟨j + 1, _, by omega, by congr 1; omega, HF.out⟩
            case measure => simp [intOf]; omega
    · have t1 : decide (((16 * j : Nat) : Int) < (s.size : Int)) = false := by simp; omega
      have hjn : (s.size + 15) / 16 = j := by omega
      have hRN := HRN.out
      rw [hjn] at hRN
      have HRN2 := Lib.hid hRN
      generalize wr = W0 at *
      have ldk : (dB (k.drop 16)).length = 16 := by rw [dB_length, List.length_drop, HKL.out]
      have dgk := dB_dig (k.drop 16)
      have hgk : ∀ q, q < 16 → (dB (k.drop 16)).getD q 0 = (k.getD (16 + q) 0).toNat := fun q hq => by
        rw [dB_getD _ _ (by rw [List.length_drop, HKL.out]; omega), List.getD_eq_getElem?_getD, List.getElem?_drop, ← List.getD_eq_getElem?_getD]
      have nk : num 256 (dB (k.drop 16)) = nb (k.drop 16) := rfl
      generalize dB (k.drop 16) = kl at ldk dgk hgk nk
      have HK2 := Lib.hid (And.intro ldk (And.intro dgk nk))
      have HGK := Lib.hid hgk
      have HA := Lib.hid (And.intro hrdA (And.intro dA (And.intro nA (And.intro lA0 lA1))))
      have HE := Lib.hid E
      have hsW : w.heap.size < W0.heap.size := E.1.lt
      have HKC := Lib.hid E.1
      clear ldk dgk hgk nk hrdA dA nA lA0 lA1 E hRN hjn HRN
      go_wp2_with fail
      go_loopw [10, 11] (fun bv iv W => ∃ q : Nat, q ≤ 16 ∧ iv = .int .i64 ((16 + q : Nat) : Int) ∧ Ow W0.heap.size W bv (kl.take q) ∧ Below W0.heap.size W0 W) (fun _ iv _ => 32 - (intOf iv).toNat)
      case atStart => exact ⟨0, by omega, rfl, Ow.nil _ _, Below.refl _ _⟩
      case round =>
        obtain ⟨q, hq, rfl, how, hbW⟩ := hrel
        obtain ⟨ab, capb, rfl⟩ := how.form
        have hlt2 : (kl.take q).length = q := by rw [List.length_take, HK2.out.1]; omega
        rw [hlt2] at how ⊢
        have HOW := Lib.hid how
        have HLT := Lib.hid hlt2
        clear how hlt2
        by_cases hql : q < 16
        · have t2 : decide (((16 + q : Nat) : Int) < 32) = true := by simp; omega
          have hin : ¬ ((32 : Int) ≤ ((16 + q : Nat) : Int)) := by omega
          have c1 := (hbW.cell (p := ⟨w.heap.size, 16 + q, none⟩) hsW).trans (HKC.out.byte (16 + q) (by rw [HKL.out]; omega))
          have htk := take_getD kl q (by rw [HK2.out.1]; omega)
          rw [HGK.out q hql] at htk
          generalize kl.take q = L at HOW HLT htk
          generalize k.getD (16 + q) 0 = y at c1 htk
          have hyl := y.toNat_lt
          have hw1 : IntKind.i64.wrap (((16 + q : Nat) : Int) + 1) = ((16 + (q + 1) : Nat) : Int) := by rw [IntWalk.i64_in _ (by omega)]; omega
          have hin2 : 16 + q < 32 := by omega
          have HTK := Lib.hid htk
          have HBW := Lib.hid hbW
          clear htk hbW
          generalize hqq : 16 + q = p at *
          generalize hqq2 : 16 + (q + 1) = p2 at *
          go_wp2_with (at_builtin; refine wpList_app1 rfl (.tmp 56) (.tmp 61) rfl rfl (HOW.out.alloc _) wr.heap.size 1 (y.toNat) rfl ((Has.fresh wr 3 #[I64 (y.toNat)]).cell 0) (by rw [HLT.out]; omega) (by simp; have := HBW.out.size; omega) ?_; intro v2 w2 hown2 hb2; obtain ⟨a2, cap2, hv2⟩ := hown2.form; rw [hv2] at hown2 ⊢)
          go_roundw
          case rel => exact ⟨q + 1, by omega, by first | rw [hqq2] | (congr 1; omega) | omega, by rw [HTK.out]; rw [List.length_append] at hown2; exact hown2, (HBW.out.alloc HBW.out.size _).trans hb2⟩
          case measure => simp [intOf]; omega
        · have hqe : q = 16 := by omega
          subst hqe
          have t2 : decide (((16 + 16 : Nat) : Int) < 32) = false := by decide
          rw [List.take_of_length_le (by rw [HK2.out.1]; exact Nat.le_refl _)] at HOW HLT
          have E2 := HE.out.step hbW
          have hrA := (HA.out.1.step hbW).mono hbW.size
          have hrB := HOW.out.rd
          have hP := plus_any A kl HA.out.2.1 HK2.out.2.1 HA.out.2.2.2.1 (by rw [HK2.out.1]; omega) (by have := HA.out.2.2.2.2; omega) (by rw [HK2.out.1]; omega) _ _ wr hrA hrB
          rw [HK2.out.2.2, HA.out.2.2.1, HK2.out.1] at hP
          have HP := Lib.hid hP
          clear hP hrA hrB hbW
          go_wp2_with fail
          go_at_call 46
          refine HP.out.mono ?_
          rintro e w3 ⟨v3, o3, rfl, hr3, d3, n3, l31, l32, hb3⟩
          replace E2 := E2.step hb3
          obtain ⟨ao, capo, rfl, hco, ho⟩ := hr3
          obtain ⟨go, rfl, hgo, cellO⟩ := ho (by omega)
          obtain ⟨lo, hlo⟩ : ∃ lo, lo = o3.length := ⟨_, rfl⟩
          have hby : ∀ i, i < 16 → IntKind.u8.wrap ((o3.getD i 0 : Nat) : Int) = ((R.getD i 0).toNat : Int) := fun i hi => by
            rw [HRN2.out, lowB_getD _ 16 i hi, getD_any o3 d3 i, n3, UInt8.toNat_ofNat', IntKind.wrap_u8']
            omega
          rw [← hlo] at hco l31 l32 cellO ⊢
          have HBY := Lib.hid hby
          have HCO := Lib.hid cellO
          clear hby cellO ho hlo n3 d3 HP HK2 HGK
          have g12 : Has (w3.alloc (.cells zb16 42)) w3.heap.size 42 (bs (R.take 0 ++ List.replicate (16 - 0) 0)) := Has.fresh w3 42 _
          have hB4 : Below w3.heap.size w3 (w3.alloc (.cells zb16 42)) := (Below.refl _ _).alloc (Nat.le_refl _) _
          have E4 := E2.step hB4
          have hsz3 : w.heap.size + 1 < w3.heap.size := E2.2.1.lt
          have HST := Lib.hid (And.intro g12 (And.intro E4.2.1 (And.intro hB4 E4.2.2.2)))
          clear g12 hB4 E4 E2 hb3
          go_wp2_with fail
          go_loopw [13] (fun iv W => ∃ i : Nat, i ≤ 16 ∧ iv = .int .i64 (i : Int) ∧ Has W w3.heap.size 42 (bs (R.take i ++ List.replicate (16 - i) 0)) ∧ Has W (w.heap.size + 1) 42 zb16 ∧ Below w3.heap.size w3 W ∧ Below w.heap.size w W) (fun iv _ => 16 - (intOf iv).toNat)
          case atStart => exact ⟨0, by omega, rfl, HST.out⟩
          case round =>
            clear HST
            obtain ⟨i, hi, rfl, g12, gr, hB4, hBw⟩ := hrel
            by_cases hi16 : i < 16
            · have t4 : decide ((i : Int) < 16) = true := by simp; omega
              have t5 : decide ((i : Int) < (lo : Int)) = true := by simp; omega
              have hil : i < lo := by omega
              have hil2 : ¬ ((lo : Int) ≤ (i : Int)) := by omega
              have hil3 : ¬ ((16 : Int) ≤ (i : Int)) := by omega
              have c1 := (hB4.cell (p := ⟨go, i, none⟩) hgo).trans (HCO.out i hil)
              have hby := HBY.out i hi16
              have c2 := g12.byte i (by rw [padB_length R 16 i (by rw [HLR.out]; omega) (by omega)]; omega)
              have f2 := g12.frozen i
              have j2 := g12.setB i (R.getD i 0)
              rw [padB_set R 16 i (by rw [HLR.out]; omega) (by omega)] at j2
              have jr := gr.other (p := ⟨w3.heap.size, i, none⟩) (by show w.heap.size + 1 ≠ w3.heap.size; omega) (B8 (R.getD i 0))
              have jB := hB4.setCell (p := ⟨w3.heap.size, i, none⟩) (Nat.le_refl _) (B8 (R.getD i 0))
              have jw := hBw.setCell (p := ⟨w3.heap.size, i, none⟩) (by show w.heap.size ≤ w3.heap.size; omega) (B8 (R.getD i 0))
              generalize R.getD i 0 = y at hby j2 jr jB jw
              generalize (List.take i R ++ List.replicate (16 - i) 0).getD i 0 = m2 at c2
              generalize o3.getD i 0 = x at c1 hby
              have HJ := Lib.hid (And.intro j2 (And.intro jr (And.intro jB jw)))
              clear j2 jr jB jw g12 gr hB4 hBw
              go_wp2
              go_roundw
              case rel => exact ⟨i + 1, by omega, by go_num, HJ.out⟩
              case measure => simp [intOf]; omega
            · have hie : i = 16 := by omega
              subst hie
              have t4 : decide (((16 : Nat) : Int) < 16) = false := by decide
              rw [Nat.sub_self, List.replicate_zero, List.append_nil, List.take_of_length_le (by rw [HLR.out]; omega)] at g12
              clear hB4
              go_wp2_with (first
                | (refine wpList_load_row rfl 42 (.tmp 12) rfl w3.heap.size rfl 42 (bs R) (0, 0) _ g12 Try.underlying42 rfl (infoB16 R HLR.out) ?_)
                | (refine wpList_store_row rfl 42 (.tmp 4) (.tmp 83) rfl (w.heap.size + 1) (bs R) rfl rfl 42 zb16 gr (infoB16 R HLR.out) (zb16_size R HLR.out) (bs_one R) ?_))
              refine bodyPost_ret (v := .agg (bs R)) (results_cell_row rfl _ _ (w.heap.size + 1) 42 (bs R) (0, 0) _ rfl (gr.setRow _) Try.underlying42 rfl (infoB16 R HLR.out)) rfl ⟨rfl, below_setRow hBw (by omega) _⟩
end Go.Proofs.Ytfhjokbbaoldiaa
