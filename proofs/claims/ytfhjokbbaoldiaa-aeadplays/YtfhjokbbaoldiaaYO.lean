/- The document's Tag and Seal of layer 5 (ref05): walked. -/
import Derived.Test.YtfhjokbbaoldiaaYN
import Derived.Test.YtfhjokbbaoldiaaTR
import Derived.Test.YtfhjokbbaoldiaaIF
namespace Go.Proofs.Ytfhjokbbaoldiaa
open Go.RowKit
def TEnv (w : World) (g : Nat) (K : List UInt8) (W : World) : Prop := Has W g 22 (bs K) ∧ Below w.heap.size w W
theorem TEnv.step {w : World} {g : Nat} {k : List UInt8} {W W' : World} (h : TEnv w g k W) (hb : Below W.heap.size W W') : TEnv w g k W' :=
  ⟨h.1.below hb h.1.lt, h.2.trans (hb.mono h.2.size)⟩
theorem TEnv.drew {w : World} {g : Nat} {k : List UInt8} {W : World} (h : TEnv w g k W) : TEnv w g k W.drew := ⟨h.1.drew, h.2.drew⟩
set_option maxRecDepth 20000 in
set_option maxHeartbeats 4000000 in
theorem refTag_any (k : List UInt8) (hk : k.length = 32) (n b m : ByteArray) (hn : n.size = 12) (hbs : b.size ≤ 400000) (hms : m.size ≤ 400000) (w : World) :
    Calls Try.prog 17 #[.agg (bs k), .string n, .string b, .string m] w fun e w' => e = .returned (.string ⟨(tagL k n.data.toList b.data.toList m.data.toList).toArray⟩) ∧ Below w.heap.size w w' := by
  have h1 := refBlock_any k hk 0 n hn
  have e0 : W32 0 = .int .u32 0 := rfl
  rw [e0] at h1
  clear e0
  obtain ⟨B, hB⟩ : ∃ B, blkB (fst0 k 0 n.data.toList) = B := ⟨_, rfl⟩
  have hBl : B.length = 64 := by rw [← hB]; exact blkB_length _ (fst0_length _ _ _)
  rw [hB] at h1
  obtain ⟨K, hK⟩ : ∃ K, B.take 32 = K := ⟨_, rfl⟩
  have hKl : K.length = 32 := by rw [← hK, List.length_take]; omega
  have hR : tagL k n.data.toList b.data.toList m.data.toList = polyL K (covL b.data.toList m.data.toList) := by rw [tagL, okeyL, hB, hK]
  have hgt : ∀ j, j < 32 → ∀ h : j < (⟨B.toArray⟩ : ByteArray).size, (⟨B.toArray⟩ : ByteArray)[j] = K.getD j 0 := fun j hj h => by
    rw [← data_getD _ j h, str_list, ← hK, List.getD_eq_getElem?_getD, List.getD_eq_getElem?_getD, List.getElem?_take_of_lt hj]
  have hbb : (⟨B.toArray⟩ : ByteArray).size = 64 := hBl
  generalize (⟨B.toArray⟩ : ByteArray) = bb at h1 hgt hbb
  clear hK hB hBl
  have hfb := full_any b (by omega)
  have hfm := full_any m (by omega)
  have heb := eight_any b.size (by omega)
  have hem := eight_any m.size (by omega)
  have hcv : (((⟨(b.data.toList ++ padL b.size).toArray⟩ : ByteArray) ++ ⟨(m.data.toList ++ padL m.size).toArray⟩) ++ ⟨(lowB b.size 8).toArray⟩ ++ ⟨(lowB m.size 8).toArray⟩).data.toList = covL b.data.toList m.data.toList := by
    rw [covL, len_list, len_list]
    simp only [ByteArray.data_append, Array.toList_append, List.append_assoc]
  have z1 : (⟨(b.data.toList ++ padL b.size).toArray⟩ : ByteArray).size ≤ 400016 := by
    rw [str_size, List.length_append, len_list]
    have := padL_length b.size
    omega
  have z2 : (⟨(m.data.toList ++ padL m.size).toArray⟩ : ByteArray).size ≤ 400016 := by
    rw [str_size, List.length_append, len_list]
    have := padL_length m.size
    omega
  have z3 : (⟨(lowB b.size 8).toArray⟩ : ByteArray).size = 8 := by rw [str_size, lowB_length]
  have z4 : (⟨(lowB m.size 8).toArray⟩ : ByteArray).size = 8 := by rw [str_size, lowB_length]
  generalize (⟨(b.data.toList ++ padL b.size).toArray⟩ : ByteArray) = FB at hfb hcv z1
  generalize (⟨(m.data.toList ++ padL m.size).toArray⟩ : ByteArray) = FM at hfm hcv z2
  generalize (⟨(lowB b.size 8).toArray⟩ : ByteArray) = EB at heb hcv z3
  generalize (⟨(lowB m.size 8).toArray⟩ : ByteArray) = EM at hem hcv z4
  have h4 := refSum_any K hKl (FB ++ FM ++ EB ++ EM) (by rw [ByteArray.size_append, ByteArray.size_append, ByteArray.size_append]; omega)
  rw [hcv, ← hR] at h4
  have hl : (tagL k n.data.toList b.data.toList m.data.toList).length = 16 := tagL_length _ _ _ _
  generalize tagL k n.data.toList b.data.toList m.data.toList = R at h4 hl ⊢
  have c1 : ¬ (9223372036854775807 < FB.size + FM.size) := by omega
  have c2 : ¬ (9223372036854775807 < FB.size + FM.size + EB.size) := by omega
  have c3 : ¬ (9223372036854775807 < FB.size + FM.size + EB.size + EM.size) := by omega
  have u1 : IntKind.u64.wrap (b.size : Int) = (b.size : Int) := wrapN _ (by omega)
  have u2 : IntKind.u64.wrap (m.size : Int) = (m.size : Int) := wrapN _ (by omega)
  have H1 := Lib.hid h1
  have HFB := Lib.hid hfb
  have HFM := Lib.hid hfm
  have HEB := Lib.hid heb
  have HEM := Lib.hid hem
  have HSU := Lib.hid h4
  have HL := Lib.hid hl
  have HK := Lib.hid hk
  have HKL := Lib.hid hKl
  have HG := Lib.hid hgt
  have HBB := Lib.hid hbb
  clear h1 hfb hfm heb hem h4 hl hk hKl hgt hbb hR hcv z1 z2 z3 z4 hn
  have hA : Has (w.alloc (.cells (bs k) 22)) w.heap.size 22 (bs k) := Has.fresh w 22 _
  have hb : Below w.heap.size w (w.alloc (.cells (bs k) 22)) := (Below.refl _ _).alloc (Nat.le_refl _) _
  go_enter Try.func17, Try.ntmps17
  go_upto_region 1 with fail
  generalize w.alloc (.cells (bs k) 22) = w0 at hA hb ⊢
  go_wp2_with (refine wpList_load_row rfl 22 (.tmp 4) rfl w.heap.size rfl 22 (bs k) (0, 0) _ hA Try.underlying22 rfl (info22 k HK.out) ?_)
  refine (H1.out _).mono ?_
  rintro e w1 ⟨rfl, hb1⟩
  replace hb := hb.trans (hb1.mono hb.size)
  clear hb1 hA
  have hN : Has (w1.alloc (.cells zk32 22)) w1.heap.size 22 zk32 := Has.fresh w1 22 _
  have hgB := hb.size
  replace hb := hb.alloc hb.size (.cells zk32 22)
  go_upto_region 3 with fail
  change Code.wp _ _ _ _ (w1.alloc (.cells zk32 22))
  generalize w1.alloc (.cells zk32 22) = w2 at hN hb ⊢
  generalize w1.heap.size = g10 at hN hgB ⊢
  go_wp2
  go_loopw [11] (fun i wr => ∃ (j : Nat), j ≤ 32 ∧ i = .int .i64 (j : Int) ∧ Has wr g10 22 (bs (K.take j ++ List.replicate (32 - j) 0)) ∧ Below w.heap.size w wr) (fun i _ => 32 - (intOf i).toNat)
  case atStart => exact ⟨0, by omega, rfl, hN, hb⟩
  case round =>
    clear hN hb w2 w1 w0 H1
    obtain ⟨j, hj, rfl, i3, hb⟩ := hrel
    by_cases hlt : j < 32
    · have t1 : decide ((j : Int) < 32) = true := by simp; omega
      have hj32 : ¬ ((32 : Int) ≤ (j : Int)) := by omega
      have hbz := HBB.out
      have hjb : j < bb.size := by omega
      have hjB : (j : Int) < (bb.size : Int) := by omega
      clear hbz
      have hset : (K.take j ++ List.replicate (32 - j) 0).set j bb[j] = K.take (j + 1) ++ List.replicate (32 - (j + 1)) 0 := by
        rw [HG.out j hlt hjb]
        exact padB_set K 32 j (by rw [HKL.out]; omega) (by omega)
      have c4 := i3.byte j (by rw [padB_length K 32 j (by rw [HKL.out]; omega) (by omega)]; omega)
      have f4 := i3.frozen j
      have j3 := i3.setB j bb[j]
      rw [hset] at j3
      have jb := hb.setCell (p := ⟨g10, j, none⟩) hgB (B8 bb[j])
      generalize (List.take j K ++ List.replicate (32 - j) 0).getD j 0 = x at c4
      have HJ := Lib.hid (And.intro j3 jb)
      clear j3 jb i3 hb hset
      go_wp2
      go_roundw
      case rel => exact ⟨j + 1, by omega, by go_num, HJ.out⟩
      case measure => simp [intOf]; omega
    · have hj2 : j = 32 := by omega
      subst hj2
      have t1 : decide (((32 : Nat) : Int) < 32) = false := by decide
      rw [Nat.sub_self, List.replicate_zero, List.append_nil, List.take_of_length_le (by rw [HKL.out]; omega)] at i3
      have E : TEnv w g10 K wr := ⟨i3, hb⟩
      clear i3 hb
      go_upto_region 7 with fail
      refine wp_region_noPanic ?_
      refine wp_region_held_drew (S := fun W => Has W g10 22 (bs K)) (by kernel_rfl) E.1.drew (fun hS => ?_)
      replace E := E.drew
      generalize wr.drew = w20 at E hS ⊢
      refine take1 hS 0 25 (.agg (bs K)) _ rfl (by kernel_rfl) (by kernel_rfl) (by kernel_rfl) (fun _ _ _ h => h) rfl rfl (fun w' h => by exact exec_load_row 22 (.tmp 10) g10 h Try.underlying22 rfl (info22 K HKL.out) rfl rfl) ?_
      simp only [Act.put, List.setIfInBounds_toArray, List.set_cons_zero, List.set_cons_succ]
      refine take1 hS 1 26 (.string b) _ rfl (by kernel_rfl) (by kernel_rfl) (by kernel_rfl) (fun _ _ _ h => h) rfl rfl (fun w' h => by go_simp) ?_
      simp only [Act.put, List.setIfInBounds_toArray, List.set_cons_zero, List.set_cons_succ]
      refine take1 hS 3 28 (.string m) _ rfl (by kernel_rfl) (by kernel_rfl) (by kernel_rfl) (fun _ _ _ h => h) rfl rfl (fun w' h => by go_simp) ?_
      simp only [Act.put, List.setIfInBounds_toArray, List.set_cons_zero, List.set_cons_succ]
      refine take1 hS 6 31 (.string b) _ rfl (by kernel_rfl) (by kernel_rfl) (by kernel_rfl) (fun _ _ _ h => h) rfl rfl (fun w' h => by go_simp) ?_
      simp only [Act.put, List.setIfInBounds_toArray, List.set_cons_zero, List.set_cons_succ]
      refine take1 hS 7 32 (.int .i64 (b.size : Int)) _ rfl (by kernel_rfl) (by kernel_rfl) (by kernel_rfl) (fun _ _ _ h => h) rfl rfl (fun w' h => by go_simp) ?_
      simp only [Act.put, List.setIfInBounds_toArray, List.set_cons_zero, List.set_cons_succ]
      refine take1 hS 8 33 (.int .u64 (b.size : Int)) _ rfl (by kernel_rfl) (by kernel_rfl) (by kernel_rfl) (fun _ _ _ h => h) rfl rfl (fun w' h => by go_simp) ?_
      simp only [Act.put, List.setIfInBounds_toArray, List.set_cons_zero, List.set_cons_succ]
      refine take1 hS 11 36 (.string m) _ rfl (by kernel_rfl) (by kernel_rfl) (by kernel_rfl) (fun _ _ _ h => h) rfl rfl (fun w' h => by go_simp) ?_
      simp only [Act.put, List.setIfInBounds_toArray, List.set_cons_zero, List.set_cons_succ]
      refine take1 hS 12 37 (.int .i64 (m.size : Int)) _ rfl (by kernel_rfl) (by kernel_rfl) (by kernel_rfl) (fun _ _ _ h => h) rfl rfl (fun w' h => by go_simp) ?_
      simp only [Act.put, List.setIfInBounds_toArray, List.set_cons_zero, List.set_cons_succ]
      refine take1 hS 13 38 (.int .u64 (m.size : Int)) _ rfl (by kernel_rfl) (by kernel_rfl) (by kernel_rfl) (fun _ _ _ h => h) rfl rfl (fun w' h => by go_simp) ?_
      simp only [Act.put, List.setIfInBounds_toArray, List.set_cons_zero, List.set_cons_succ]
      refine wpAnyH_all (rs := [2, 17]) (by kernel_rfl) (by simp) ?_
      intro i hi
      simp only [List.mem_cons, List.not_mem_nil, or_false] at hi
      rcases hi with rfl | rfl
      · refine wpOp_call (d := 27) (f := 29) (args := #[.string b]) (HFB.out w20) rfl rfl rfl (by go_simp) ?_
        rintro e w21 ⟨rfl, hb1⟩
        replace E := E.step hb1
        replace hS := E.1
        refine ⟨_, rfl, hS, ?_⟩
        simp only [Act.put, List.setIfInBounds_toArray, List.set_cons_zero, List.set_cons_succ]
        clear hb1
        refine wpAnyH_all (rs := [4, 17]) (by kernel_rfl) (by simp) ?_
        intro i hi
        simp only [List.mem_cons, List.not_mem_nil, or_false] at hi
        rcases hi with rfl | rfl
        · refine wpOp_call (d := 29) (f := 29) (args := #[.string m]) (HFM.out w21) rfl rfl rfl (by go_simp) ?_
          rintro e w22 ⟨rfl, hb1⟩
          replace E := E.step hb1
          replace hS := E.1
          refine ⟨_, rfl, hS, ?_⟩
          simp only [Act.put, List.setIfInBounds_toArray, List.set_cons_zero, List.set_cons_succ]
          clear hb1
          refine take1 hS 5 30 (.string (FB ++ FM)) _ rfl (by kernel_rfl) (by kernel_rfl) (by kernel_rfl) (fun _ _ _ h => h) rfl rfl (fun w' h => by go_simp) ?_
          simp only [Act.put, List.setIfInBounds_toArray, List.set_cons_zero, List.set_cons_succ]
          refine wpAnyH_all (rs := [9, 17]) (by kernel_rfl) (by simp) ?_
          intro i hi
          simp only [List.mem_cons, List.not_mem_nil, or_false] at hi
          rcases hi with rfl | rfl
          · refine wpOp_call (d := 34) (f := 14) (args := #[.int .u64 (b.size : Int)]) (HEB.out w22) rfl rfl rfl (by go_simp) ?_
            rintro e w23 ⟨rfl, hb1⟩
            replace E := E.step hb1
            replace hS := E.1
            refine ⟨_, rfl, hS, ?_⟩
            simp only [Act.put, List.setIfInBounds_toArray, List.set_cons_zero, List.set_cons_succ]
            clear hb1
            refine take1 hS 10 35 (.string (FB ++ FM ++ EB)) _ rfl (by kernel_rfl) (by kernel_rfl) (by kernel_rfl) (fun _ _ _ h => h) rfl rfl (fun w' h => by go_simp) ?_
            simp only [Act.put, List.setIfInBounds_toArray, List.set_cons_zero, List.set_cons_succ]
            refine wpAnyH_all (rs := [14, 17]) (by kernel_rfl) (by simp) ?_
            intro i hi
            simp only [List.mem_cons, List.not_mem_nil, or_false] at hi
            rcases hi with rfl | rfl
            · refine wpOp_call (d := 39) (f := 14) (args := #[.int .u64 (m.size : Int)]) (HEM.out w23) rfl rfl rfl (by go_simp) ?_
              rintro e w24 ⟨rfl, hb1⟩
              replace E := E.step hb1
              replace hS := E.1
              refine ⟨_, rfl, hS, ?_⟩
              simp only [Act.put, List.setIfInBounds_toArray, List.set_cons_zero, List.set_cons_succ]
              clear hb1
              refine take1 hS 15 40 (.string (FB ++ FM ++ EB ++ EM)) _ rfl (by kernel_rfl) (by kernel_rfl) (by kernel_rfl) (fun _ _ _ h => h) rfl rfl (fun w' h => by go_simp) ?_
              simp only [Act.put, List.setIfInBounds_toArray, List.set_cons_zero, List.set_cons_succ]
              refine wpAnyH_all (rs := [16, 17]) (by kernel_rfl) (by simp) ?_
              intro i hi
              simp only [List.mem_cons, List.not_mem_nil, or_false] at hi
              rcases hi with rfl | rfl
              · refine wpOp_call (d := 41) (f := 28) (args := #[.agg (bs K), .string (FB ++ FM ++ EB ++ EM)]) (HSU.out w24) rfl rfl rfl (by go_simp) ?_
                rintro e w25 ⟨rfl, hb1⟩
                replace E := E.step hb1
                replace hS := E.1
                refine ⟨_, rfl, hS, ?_⟩
                simp only [Act.put, List.setIfInBounds_toArray, List.set_cons_zero, List.set_cons_succ]
                clear hb1
                have hN : Has (w25.alloc (.cells zb16 42)) w25.heap.size 42 zb16 := Has.fresh w25 42 _
                have hl := E.1.lt
                have hB := E.2.size
                replace E := E.step ((Below.refl _ _).alloc (Nat.le_refl _) (.cells zb16 42))
                replace hS := E.1
                refine onlyVal 17 12 (.pointer (some ⟨w25.heap.size, 0, none⟩)) (w25.alloc (.cells zb16 42)) _ (by kernel_rfl) rfl rfl rfl (by go_simp; rfl) hS ?_
                simp only [Act.put, List.setIfInBounds_toArray, List.set_cons_zero, List.set_cons_succ]
                generalize w25.alloc (.cells zb16 42) = w26 at E hN hS ⊢
                generalize w25.heap.size = g12 at hl hB hN ⊢
                refine onlySkip 18 (w26.setRow g12 (bs R)) _ (by kernel_rfl) rfl rfl rfl (exec_store_row (P := Try.prog) (w := w26) 42 (.tmp 12) (.tmp 41) g12 (bs R) hN (infoB16 R HL.out) (zb16_size R HL.out) (bs_one R) rfl rfl rfl) (E.1.setRow_other (g' := g12) (by omega) (bs R)) ?_
                have hBZ := below_setRow E.2 (g := g12) hB (bs R)
                replace hN := hN.setRow (bs R)
                generalize w26.setRow g12 (bs R) = w27 at hN hBZ ⊢
                simp only [Act.put]
                refine wpAnyH_done (by kernel_rfl) ?_ _
                refine NoPanic.normal ?_
                have hcv := conv_bytes hN 16 16 HL.out
                clear hS
                go_wp2
                go_ret
                exact ⟨rfl, hBZ⟩
              · have hN : Has (w24.alloc (.cells zb16 42)) w24.heap.size 42 zb16 := Has.fresh w24 42 _
                have hl := E.1.lt
                have hB := E.2.size
                replace E := E.step ((Below.refl _ _).alloc (Nat.le_refl _) (.cells zb16 42))
                replace hS := E.1
                refine wpOp_val (d := 12) (v := .pointer (some ⟨w24.heap.size, 0, none⟩)) (w' := w24.alloc (.cells zb16 42)) rfl rfl rfl (by go_simp; rfl) ⟨hS, ?_⟩
                simp only [Act.put, List.setIfInBounds_toArray, List.set_cons_zero, List.set_cons_succ]
                generalize w24.alloc (.cells zb16 42) = w25 at E hN hS ⊢
                generalize w24.heap.size = g12 at hl hB hN ⊢
                have hcall := HSU.out w25
                refine onlyCall 16 41 _ _ _ (by kernel_rfl) rfl rfl rfl (by go_simp) hcall ?_
                rintro e w26 ⟨rfl, hb1⟩
                replace E := E.step hb1
                replace hN := hN.below hb1 hN.lt
                replace hS := E.1
                refine ⟨_, rfl, hS, ?_⟩
                simp only [Act.put, List.setIfInBounds_toArray, List.set_cons_zero, List.set_cons_succ]
                clear hb1
                clear hcall
                refine onlySkip 18 (w26.setRow g12 (bs R)) _ (by kernel_rfl) rfl rfl rfl (exec_store_row (P := Try.prog) (w := w26) 42 (.tmp 12) (.tmp 41) g12 (bs R) hN (infoB16 R HL.out) (zb16_size R HL.out) (bs_one R) rfl rfl rfl) (E.1.setRow_other (g' := g12) (by omega) (bs R)) ?_
                have hBZ := below_setRow E.2 (g := g12) hB (bs R)
                replace hN := hN.setRow (bs R)
                generalize w26.setRow g12 (bs R) = w27 at hN hBZ ⊢
                simp only [Act.put]
                refine wpAnyH_done (by kernel_rfl) ?_ _
                refine NoPanic.normal ?_
                have hcv := conv_bytes hN 16 16 HL.out
                clear hS
                go_wp2
                go_ret
                exact ⟨rfl, hBZ⟩
            · have hN : Has (w23.alloc (.cells zb16 42)) w23.heap.size 42 zb16 := Has.fresh w23 42 _
              have hl := E.1.lt
              have hB := E.2.size
              replace E := E.step ((Below.refl _ _).alloc (Nat.le_refl _) (.cells zb16 42))
              replace hS := E.1
              refine wpOp_val (d := 12) (v := .pointer (some ⟨w23.heap.size, 0, none⟩)) (w' := w23.alloc (.cells zb16 42)) rfl rfl rfl (by go_simp; rfl) ⟨hS, ?_⟩
              simp only [Act.put, List.setIfInBounds_toArray, List.set_cons_zero, List.set_cons_succ]
              generalize w23.alloc (.cells zb16 42) = w24 at E hN hS ⊢
              generalize w23.heap.size = g12 at hl hB hN ⊢
              have hcall := HEM.out w24
              refine onlyCall 14 39 _ _ _ (by kernel_rfl) rfl rfl rfl (by go_simp) hcall ?_
              rintro e w25 ⟨rfl, hb1⟩
              replace E := E.step hb1
              replace hN := hN.below hb1 hN.lt
              replace hS := E.1
              refine ⟨_, rfl, hS, ?_⟩
              simp only [Act.put, List.setIfInBounds_toArray, List.set_cons_zero, List.set_cons_succ]
              clear hb1
              clear hcall
              refine take1 hS 15 40 (.string (FB ++ FM ++ EB ++ EM)) _ rfl (by kernel_rfl) (by kernel_rfl) (by kernel_rfl) (fun _ _ _ h => h) rfl rfl (fun w' h => by go_simp) ?_
              simp only [Act.put, List.setIfInBounds_toArray, List.set_cons_zero, List.set_cons_succ]
              have hcall := HSU.out w25
              refine onlyCall 16 41 _ _ _ (by kernel_rfl) rfl rfl rfl (by go_simp) hcall ?_
              rintro e w26 ⟨rfl, hb1⟩
              replace E := E.step hb1
              replace hN := hN.below hb1 hN.lt
              replace hS := E.1
              refine ⟨_, rfl, hS, ?_⟩
              simp only [Act.put, List.setIfInBounds_toArray, List.set_cons_zero, List.set_cons_succ]
              clear hb1
              clear hcall
              refine onlySkip 18 (w26.setRow g12 (bs R)) _ (by kernel_rfl) rfl rfl rfl (exec_store_row (P := Try.prog) (w := w26) 42 (.tmp 12) (.tmp 41) g12 (bs R) hN (infoB16 R HL.out) (zb16_size R HL.out) (bs_one R) rfl rfl rfl) (E.1.setRow_other (g' := g12) (by omega) (bs R)) ?_
              have hBZ := below_setRow E.2 (g := g12) hB (bs R)
              replace hN := hN.setRow (bs R)
              generalize w26.setRow g12 (bs R) = w27 at hN hBZ ⊢
              simp only [Act.put]
              refine wpAnyH_done (by kernel_rfl) ?_ _
              refine NoPanic.normal ?_
              have hcv := conv_bytes hN 16 16 HL.out
              clear hS
              go_wp2
              go_ret
              exact ⟨rfl, hBZ⟩
          · have hN : Has (w22.alloc (.cells zb16 42)) w22.heap.size 42 zb16 := Has.fresh w22 42 _
            have hl := E.1.lt
            have hB := E.2.size
            replace E := E.step ((Below.refl _ _).alloc (Nat.le_refl _) (.cells zb16 42))
            replace hS := E.1
            refine wpOp_val (d := 12) (v := .pointer (some ⟨w22.heap.size, 0, none⟩)) (w' := w22.alloc (.cells zb16 42)) rfl rfl rfl (by go_simp; rfl) ⟨hS, ?_⟩
            simp only [Act.put, List.setIfInBounds_toArray, List.set_cons_zero, List.set_cons_succ]
            generalize w22.alloc (.cells zb16 42) = w23 at E hN hS ⊢
            generalize w22.heap.size = g12 at hl hB hN ⊢
            have hcall := HEB.out w23
            refine onlyCall 9 34 _ _ _ (by kernel_rfl) rfl rfl rfl (by go_simp) hcall ?_
            rintro e w24 ⟨rfl, hb1⟩
            replace E := E.step hb1
            replace hN := hN.below hb1 hN.lt
            replace hS := E.1
            refine ⟨_, rfl, hS, ?_⟩
            simp only [Act.put, List.setIfInBounds_toArray, List.set_cons_zero, List.set_cons_succ]
            clear hb1
            clear hcall
            refine take1 hS 10 35 (.string (FB ++ FM ++ EB)) _ rfl (by kernel_rfl) (by kernel_rfl) (by kernel_rfl) (fun _ _ _ h => h) rfl rfl (fun w' h => by go_simp) ?_
            simp only [Act.put, List.setIfInBounds_toArray, List.set_cons_zero, List.set_cons_succ]
            have hcall := HEM.out w24
            refine onlyCall 14 39 _ _ _ (by kernel_rfl) rfl rfl rfl (by go_simp) hcall ?_
            rintro e w25 ⟨rfl, hb1⟩
            replace E := E.step hb1
            replace hN := hN.below hb1 hN.lt
            replace hS := E.1
            refine ⟨_, rfl, hS, ?_⟩
            simp only [Act.put, List.setIfInBounds_toArray, List.set_cons_zero, List.set_cons_succ]
            clear hb1
            clear hcall
            refine take1 hS 15 40 (.string (FB ++ FM ++ EB ++ EM)) _ rfl (by kernel_rfl) (by kernel_rfl) (by kernel_rfl) (fun _ _ _ h => h) rfl rfl (fun w' h => by go_simp) ?_
            simp only [Act.put, List.setIfInBounds_toArray, List.set_cons_zero, List.set_cons_succ]
            have hcall := HSU.out w25
            refine onlyCall 16 41 _ _ _ (by kernel_rfl) rfl rfl rfl (by go_simp) hcall ?_
            rintro e w26 ⟨rfl, hb1⟩
            replace E := E.step hb1
            replace hN := hN.below hb1 hN.lt
            replace hS := E.1
            refine ⟨_, rfl, hS, ?_⟩
            simp only [Act.put, List.setIfInBounds_toArray, List.set_cons_zero, List.set_cons_succ]
            clear hb1
            clear hcall
            refine onlySkip 18 (w26.setRow g12 (bs R)) _ (by kernel_rfl) rfl rfl rfl (exec_store_row (P := Try.prog) (w := w26) 42 (.tmp 12) (.tmp 41) g12 (bs R) hN (infoB16 R HL.out) (zb16_size R HL.out) (bs_one R) rfl rfl rfl) (E.1.setRow_other (g' := g12) (by omega) (bs R)) ?_
            have hBZ := below_setRow E.2 (g := g12) hB (bs R)
            replace hN := hN.setRow (bs R)
            generalize w26.setRow g12 (bs R) = w27 at hN hBZ ⊢
            simp only [Act.put]
            refine wpAnyH_done (by kernel_rfl) ?_ _
            refine NoPanic.normal ?_
            have hcv := conv_bytes hN 16 16 HL.out
            clear hS
            go_wp2
            go_ret
            exact ⟨rfl, hBZ⟩
        · have hN : Has (w21.alloc (.cells zb16 42)) w21.heap.size 42 zb16 := Has.fresh w21 42 _
          have hl := E.1.lt
          have hB := E.2.size
          replace E := E.step ((Below.refl _ _).alloc (Nat.le_refl _) (.cells zb16 42))
          replace hS := E.1
          refine wpOp_val (d := 12) (v := .pointer (some ⟨w21.heap.size, 0, none⟩)) (w' := w21.alloc (.cells zb16 42)) rfl rfl rfl (by go_simp; rfl) ⟨hS, ?_⟩
          simp only [Act.put, List.setIfInBounds_toArray, List.set_cons_zero, List.set_cons_succ]
          generalize w21.alloc (.cells zb16 42) = w22 at E hN hS ⊢
          generalize w21.heap.size = g12 at hl hB hN ⊢
          have hcall := HFM.out w22
          refine onlyCall 4 29 _ _ _ (by kernel_rfl) rfl rfl rfl (by go_simp) hcall ?_
          rintro e w23 ⟨rfl, hb1⟩
          replace E := E.step hb1
          replace hN := hN.below hb1 hN.lt
          replace hS := E.1
          refine ⟨_, rfl, hS, ?_⟩
          simp only [Act.put, List.setIfInBounds_toArray, List.set_cons_zero, List.set_cons_succ]
          clear hb1
          clear hcall
          refine take1 hS 5 30 (.string (FB ++ FM)) _ rfl (by kernel_rfl) (by kernel_rfl) (by kernel_rfl) (fun _ _ _ h => h) rfl rfl (fun w' h => by go_simp) ?_
          simp only [Act.put, List.setIfInBounds_toArray, List.set_cons_zero, List.set_cons_succ]
          have hcall := HEB.out w23
          refine onlyCall 9 34 _ _ _ (by kernel_rfl) rfl rfl rfl (by go_simp) hcall ?_
          rintro e w24 ⟨rfl, hb1⟩
          replace E := E.step hb1
          replace hN := hN.below hb1 hN.lt
          replace hS := E.1
          refine ⟨_, rfl, hS, ?_⟩
          simp only [Act.put, List.setIfInBounds_toArray, List.set_cons_zero, List.set_cons_succ]
          clear hb1
          clear hcall
          refine take1 hS 10 35 (.string (FB ++ FM ++ EB)) _ rfl (by kernel_rfl) (by kernel_rfl) (by kernel_rfl) (fun _ _ _ h => h) rfl rfl (fun w' h => by go_simp) ?_
          simp only [Act.put, List.setIfInBounds_toArray, List.set_cons_zero, List.set_cons_succ]
          have hcall := HEM.out w24
          refine onlyCall 14 39 _ _ _ (by kernel_rfl) rfl rfl rfl (by go_simp) hcall ?_
          rintro e w25 ⟨rfl, hb1⟩
          replace E := E.step hb1
          replace hN := hN.below hb1 hN.lt
          replace hS := E.1
          refine ⟨_, rfl, hS, ?_⟩
          simp only [Act.put, List.setIfInBounds_toArray, List.set_cons_zero, List.set_cons_succ]
          clear hb1
          clear hcall
          refine take1 hS 15 40 (.string (FB ++ FM ++ EB ++ EM)) _ rfl (by kernel_rfl) (by kernel_rfl) (by kernel_rfl) (fun _ _ _ h => h) rfl rfl (fun w' h => by go_simp) ?_
          simp only [Act.put, List.setIfInBounds_toArray, List.set_cons_zero, List.set_cons_succ]
          have hcall := HSU.out w25
          refine onlyCall 16 41 _ _ _ (by kernel_rfl) rfl rfl rfl (by go_simp) hcall ?_
          rintro e w26 ⟨rfl, hb1⟩
          replace E := E.step hb1
          replace hN := hN.below hb1 hN.lt
          replace hS := E.1
          refine ⟨_, rfl, hS, ?_⟩
          simp only [Act.put, List.setIfInBounds_toArray, List.set_cons_zero, List.set_cons_succ]
          clear hb1
          clear hcall
          refine onlySkip 18 (w26.setRow g12 (bs R)) _ (by kernel_rfl) rfl rfl rfl (exec_store_row (P := Try.prog) (w := w26) 42 (.tmp 12) (.tmp 41) g12 (bs R) hN (infoB16 R HL.out) (zb16_size R HL.out) (bs_one R) rfl rfl rfl) (E.1.setRow_other (g' := g12) (by omega) (bs R)) ?_
          have hBZ := below_setRow E.2 (g := g12) hB (bs R)
          replace hN := hN.setRow (bs R)
          generalize w26.setRow g12 (bs R) = w27 at hN hBZ ⊢
          simp only [Act.put]
          refine wpAnyH_done (by kernel_rfl) ?_ _
          refine NoPanic.normal ?_
          have hcv := conv_bytes hN 16 16 HL.out
          clear hS
          go_wp2
          go_ret
          exact ⟨rfl, hBZ⟩
      · have hN : Has (w20.alloc (.cells zb16 42)) w20.heap.size 42 zb16 := Has.fresh w20 42 _
        have hl := E.1.lt
        have hB := E.2.size
        replace E := E.step ((Below.refl _ _).alloc (Nat.le_refl _) (.cells zb16 42))
        replace hS := E.1
        refine wpOp_val (d := 12) (v := .pointer (some ⟨w20.heap.size, 0, none⟩)) (w' := w20.alloc (.cells zb16 42)) rfl rfl rfl (by go_simp; rfl) ⟨hS, ?_⟩
        simp only [Act.put, List.setIfInBounds_toArray, List.set_cons_zero, List.set_cons_succ]
        generalize w20.alloc (.cells zb16 42) = w21 at E hN hS ⊢
        generalize w20.heap.size = g12 at hl hB hN ⊢
        have hcall := HFB.out w21
        refine onlyCall 2 27 _ _ _ (by kernel_rfl) rfl rfl rfl (by go_simp) hcall ?_
        rintro e w22 ⟨rfl, hb1⟩
        replace E := E.step hb1
        replace hN := hN.below hb1 hN.lt
        replace hS := E.1
        refine ⟨_, rfl, hS, ?_⟩
        simp only [Act.put, List.setIfInBounds_toArray, List.set_cons_zero, List.set_cons_succ]
        clear hb1
        clear hcall
        have hcall := HFM.out w22
        refine onlyCall 4 29 _ _ _ (by kernel_rfl) rfl rfl rfl (by go_simp) hcall ?_
        rintro e w23 ⟨rfl, hb1⟩
        replace E := E.step hb1
        replace hN := hN.below hb1 hN.lt
        replace hS := E.1
        refine ⟨_, rfl, hS, ?_⟩
        simp only [Act.put, List.setIfInBounds_toArray, List.set_cons_zero, List.set_cons_succ]
        clear hb1
        clear hcall
        refine take1 hS 5 30 (.string (FB ++ FM)) _ rfl (by kernel_rfl) (by kernel_rfl) (by kernel_rfl) (fun _ _ _ h => h) rfl rfl (fun w' h => by go_simp) ?_
        simp only [Act.put, List.setIfInBounds_toArray, List.set_cons_zero, List.set_cons_succ]
        have hcall := HEB.out w23
        refine onlyCall 9 34 _ _ _ (by kernel_rfl) rfl rfl rfl (by go_simp) hcall ?_
        rintro e w24 ⟨rfl, hb1⟩
        replace E := E.step hb1
        replace hN := hN.below hb1 hN.lt
        replace hS := E.1
        refine ⟨_, rfl, hS, ?_⟩
        simp only [Act.put, List.setIfInBounds_toArray, List.set_cons_zero, List.set_cons_succ]
        clear hb1
        clear hcall
        refine take1 hS 10 35 (.string (FB ++ FM ++ EB)) _ rfl (by kernel_rfl) (by kernel_rfl) (by kernel_rfl) (fun _ _ _ h => h) rfl rfl (fun w' h => by go_simp) ?_
        simp only [Act.put, List.setIfInBounds_toArray, List.set_cons_zero, List.set_cons_succ]
        have hcall := HEM.out w24
        refine onlyCall 14 39 _ _ _ (by kernel_rfl) rfl rfl rfl (by go_simp) hcall ?_
        rintro e w25 ⟨rfl, hb1⟩
        replace E := E.step hb1
        replace hN := hN.below hb1 hN.lt
        replace hS := E.1
        refine ⟨_, rfl, hS, ?_⟩
        simp only [Act.put, List.setIfInBounds_toArray, List.set_cons_zero, List.set_cons_succ]
        clear hb1
        clear hcall
        refine take1 hS 15 40 (.string (FB ++ FM ++ EB ++ EM)) _ rfl (by kernel_rfl) (by kernel_rfl) (by kernel_rfl) (fun _ _ _ h => h) rfl rfl (fun w' h => by go_simp) ?_
        simp only [Act.put, List.setIfInBounds_toArray, List.set_cons_zero, List.set_cons_succ]
        have hcall := HSU.out w25
        refine onlyCall 16 41 _ _ _ (by kernel_rfl) rfl rfl rfl (by go_simp) hcall ?_
        rintro e w26 ⟨rfl, hb1⟩
        replace E := E.step hb1
        replace hN := hN.below hb1 hN.lt
        replace hS := E.1
        refine ⟨_, rfl, hS, ?_⟩
        simp only [Act.put, List.setIfInBounds_toArray, List.set_cons_zero, List.set_cons_succ]
        clear hb1
        clear hcall
        refine onlySkip 18 (w26.setRow g12 (bs R)) _ (by kernel_rfl) rfl rfl rfl (exec_store_row (P := Try.prog) (w := w26) 42 (.tmp 12) (.tmp 41) g12 (bs R) hN (infoB16 R HL.out) (zb16_size R HL.out) (bs_one R) rfl rfl rfl) (E.1.setRow_other (g' := g12) (by omega) (bs R)) ?_
        have hBZ := below_setRow E.2 (g := g12) hB (bs R)
        replace hN := hN.setRow (bs R)
        generalize w26.setRow g12 (bs R) = w27 at hN hBZ ⊢
        simp only [Act.put]
        refine wpAnyH_done (by kernel_rfl) ?_ _
        refine NoPanic.normal ?_
        have hcv := conv_bytes hN 16 16 HL.out
        clear hS
        go_wp2
        go_ret
        exact ⟨rfl, hBZ⟩
set_option maxRecDepth 20000 in
set_option maxHeartbeats 1000000 in
theorem refSeal_any (k : List UInt8) (hk : k.length = 32) (n b s : ByteArray) (hn : n.size = 12) (hbs : b.size ≤ 400000) (hss : s.size ≤ 100000) (w : World) :
    Calls Try.prog 16 #[.agg (bs k), .string n, .string b, .string s] w fun e w' => e = .returned (.string ⟨(sealL k n.data.toList b.data.toList s.data.toList).toArray⟩) ∧ Below w.heap.size w w' := by
  have h1 := refMask_any k hk 1 n s hn hss
  have e0 : W32 1 = .int .u32 1 := rfl
  rw [e0] at h1
  clear e0
  have hmt : maskL (fst0 k 1 n.data.toList) s.data.toList = maskT k n.data.toList s.data.toList := by rw [maskT]
  rw [hmt] at h1
  have hml := maskT_length k n.data.toList s.data.toList
  rw [len_list] at hml
  have h2 := refTag_any k hk n b ⟨(maskT k n.data.toList s.data.toList).toArray⟩ hn hbs (by rw [str_size]; omega)
  rw [str_list] at h2
  have hs : sealL k n.data.toList b.data.toList s.data.toList = maskT k n.data.toList s.data.toList ++ tagL k n.data.toList b.data.toList (maskT k n.data.toList s.data.toList) := by rw [sealL]
  have htl := tagL_length k n.data.toList b.data.toList (maskT k n.data.toList s.data.toList)
  generalize tagL k n.data.toList b.data.toList (maskT k n.data.toList s.data.toList) = T at h2 hs htl
  generalize maskT k n.data.toList s.data.toList = M at h1 h2 hs hml hmt
  rw [hs]
  have he : (⟨M.toArray⟩ : ByteArray) ++ ⟨T.toArray⟩ = ⟨(M ++ T).toArray⟩ := ext_lists _ _ (by rw [cat_list])
  have c1 : ¬ (9223372036854775807 < M.length + T.length) := by omega
  have HE := Lib.hid he
  have H1 := Lib.hid h1
  have H2 := Lib.hid h2
  have HK := Lib.hid hk
  clear h1 h2 hk he hs hml htl hmt hn
  have hA : Has (w.alloc (.cells (bs k) 22)) w.heap.size 22 (bs k) := Has.fresh w 22 _
  have hb : Below w.heap.size w (w.alloc (.cells (bs k) 22)) := (Below.refl _ _).alloc (Nat.le_refl _) _
  go_enter Try.func16, Try.ntmps16
  go_upto_region 1 with fail
  generalize w.alloc (.cells (bs k) 22) = w0 at hA hb ⊢
  go_wp2_with (refine wpList_load_row rfl 22 (.tmp 4) rfl w.heap.size rfl 22 (bs k) (0, 0) _ hA Try.underlying22 rfl (info22 k HK.out) ?_)
  refine (H1.out _).mono ?_
  rintro e w1 ⟨rfl, hb1⟩
  replace hb := hb.trans (hb1.mono hb.size)
  replace hA := hA.below hb1 hA.lt
  clear hb1
  go_wp2_with (refine wpList_load_row rfl 22 (.tmp 4) rfl w.heap.size rfl 22 (bs k) (0, 0) _ hA Try.underlying22 rfl (info22 k HK.out) ?_)
  refine (H2.out _).mono ?_
  rintro e w2 ⟨rfl, hb1⟩
  replace hb := hb.trans (hb1.mono hb.size)
  clear hb1
  go_wp2
  go_ret
  exact ⟨by rw [← HE.out]; rfl, hb⟩
end Go.Proofs.Ytfhjokbbaoldiaa
