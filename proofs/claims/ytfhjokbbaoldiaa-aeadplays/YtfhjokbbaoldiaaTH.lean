/- cha.firstState: walked. -/
import Derived.Test.YtfhjokbbaoldiaaTG
import Derived.Test.YtfhjokbbaoldiaaBU
import Derived.Deep.DeepCutAuto
namespace Go.Proofs.Ytfhjokbbaoldiaa
open Go.RowKit
theorem infoKey (l : List UInt8) (hl : l.length = 32) : (Try.prog.info? 23).map (·.size) = some (bs l).size := by
  rw [bs_size, hl]; exact (by kernel_rfl : (Try.prog.info? 23).map (·.size) = some 32)
theorem z4_size (l : List UInt8) (h : l.length = 4) : z4.size = (bs l).size := by unfold z4; rw [bs_size, bs_size, h]; rfl
/-- the first i words of a state, zeros behind them -/
def stTo (t : List UInt8) (i : Nat) : List UInt32 := (List.range 16).map fun j => if j < i then wAt t j else 0
theorem stTo_length (t : List UInt8) (i : Nat) : (stTo t i).length = 16 := by simp [stTo]
theorem stTo_zero (t : List UInt8) : stTo t 0 = List.replicate 16 0 := by simp [stTo, List.range, List.range.loop]
theorem stTo_done (t : List UInt8) : stTo t 16 = (List.range 16).map (wAt t) := by
  unfold stTo
  apply List.map_congr_left
  intro j hj
  rw [List.mem_range] at hj
  rw [if_pos hj]
theorem stTo_set (t : List UInt8) (i : Nat) : (stTo t i).set i (wAt t i) = stTo t (i + 1) := by
  apply List.ext_getElem (by simp [stTo])
  intro j h1 h2
  rw [List.getElem_set]
  simp only [stTo, List.getElem_map, List.getElem_range]
  by_cases h : i = j
  · subst h; rw [if_pos rfl, if_pos (by omega)]
  · rw [if_neg h]
    by_cases h3 : j < i
    · rw [if_pos h3, if_pos (by omega)]
    · rw [if_neg h3, if_neg (by omega)]
/-- what memory holds in the midst of the making of a state -/
def FEnv (w : World) (g7 : Nat) (k n4 : List UInt8) (W : World) : Prop :=
  Has W w.heap.size 23 (bs k) ∧ Has W (w.heap.size + 1) 50 z16 ∧ Has W g7 71 (bs n4) ∧ Below w.heap.size w W
theorem FEnv.drew {w : World} {g7 : Nat} {k n4 : List UInt8} {W : World} (h : FEnv w g7 k n4 W) : FEnv w g7 k n4 W.drew := ⟨h.1, h.2.1, h.2.2.1, h.2.2.2.drew⟩
set_option maxRecDepth 20000 in
set_option maxHeartbeats 1000000 in
theorem first_any (k : List UInt8) (hk : k.length = 32) (c : UInt32) (n : ByteArray) (hn : n.size = 12) (w : World) :
    Calls Try.prog 30 #[.agg (bs k), W32 c, .string n] w fun e w' => e = .returned (.agg (ws (fst0 k c n.data.toList))) ∧ Below w.heap.size w w' := by
  have hb := bytesOf_any c
  have hT : txt k c n.data.toList = ahead16 ++ k ++ leB c ++ n.data.toList := rfl
  have h4 := leB_length c
  generalize leB c = n4 at hb hT h4
  obtain ⟨T, hTT⟩ : ∃ T : ByteArray, T = (((⟨ahead16.toArray⟩ : ByteArray) ++ ⟨k.toArray⟩) ++ ⟨n4.toArray⟩) ++ n := ⟨_, rfl⟩
  have hTl : T.data.toList = txt k c n.data.toList := by rw [hTT, hT, cat_str, cat_str, cat_list]
  have hTs : T.size = 64 := by
    rw [hTT, ByteArray.size_append, ByteArray.size_append, ByteArray.size_append, str_size, str_size, str_size, hk, h4, hn]; rfl
  have hR : fst0 k c n.data.toList = stTo T.data.toList 16 := by rw [stTo_done, hTl]; rfl
  rw [hR]
  have HB := Lib.hid hb
  have HT := Lib.hid hTT
  have HTS := Lib.hid hTs
  have HK := Lib.hid hk
  have H4 := Lib.hid h4
  have hsz : (⟨k.toArray⟩ : ByteArray).size = 32 := by rw [str_size, hk]
  have hs4 : (⟨n4.toArray⟩ : ByteArray).size = 4 := by rw [str_size, h4]
  clear hb hT hTT hTl hR hTs h4
  have hA : Has ((w.alloc (.cells (bs k) 23)).alloc (.cells z16 50)) w.heap.size 23 (bs k) := (Has.fresh w 23 _).alloc _
  have hB : Has ((w.alloc (.cells (bs k) 23)).alloc (.cells z16 50)) (w.heap.size + 1) 50 z16 := heap_alloc2_new w _ _
  have hbl : Below w.heap.size w ((w.alloc (.cells (bs k) 23)).alloc (.cells z16 50)) := ((Below.refl _ _).alloc (Nat.le_refl _) _).alloc (by simp) _
  go_enter Try.func30, Try.ntmps30
  go_wp2_with fail
  change Calls _ _ _ ((w.alloc (.cells (bs k) 23)).alloc (.cells z16 50)) _
  generalize (w.alloc (.cells (bs k) 23)).alloc (.cells z16 50) = w0 at hA hB hbl ⊢
  refine (HB.out _).mono ?_
  rintro e w1 ⟨rfl, hb1⟩
  replace hA := hA.below hb1 hA.lt
  replace hB := hB.below hb1 hB.lt
  replace hbl := hbl.trans (hb1.mono hbl.size)
  clear hb1 HB w0
  have hN : Has (w1.alloc (.cells z4 71)) w1.heap.size 71 z4 := Has.fresh w1 71 _
  go_upto_region 2 with
    (refine wpList_store_row rfl 71 (.tmp 7) (.tmp 12) rfl w1.heap.size (bs n4) rfl rfl 71 z4 hN (info4 n4 H4.out) (z4_size n4 H4.out) (bs_one n4) ?_)
  change Code.wp _ _ _ _ ((w1.alloc (.cells z4 71)).setRow w1.heap.size (bs n4))
  have E : FEnv w w1.heap.size k n4 ((w1.alloc (.cells z4 71)).setRow w1.heap.size (bs n4)) :=
    ⟨(hA.alloc _).setRow_other (by have := hA.lt; omega) _, (hB.alloc _).setRow_other (by have := hB.lt; omega) _, hN.setRow _, below_setRow (hbl.alloc hbl.size _) hbl.size _⟩
  generalize (w1.alloc (.cells z4 71)).setRow w1.heap.size (bs n4) = wr at E ⊢
  clear hN hA hB hbl
  generalize w1.heap.size = g7 at E ⊢
  clear w1
  obtain ⟨U1, hU1⟩ : ∃ U1 : ByteArray, (⟨ahead16.toArray⟩ : ByteArray) ++ ⟨k.toArray⟩ = U1 := ⟨_, rfl⟩
  obtain ⟨U2, hU2⟩ : ∃ U2 : ByteArray, U1 ++ ⟨n4.toArray⟩ = U2 := ⟨_, rfl⟩
  have hUT : U2 ++ n = T := by rw [HT.out, ← hU2, ← hU1]
  have hc1 : ¬ (9223372036854775807 < (⟨ahead16.toArray⟩ : ByteArray).size + (⟨k.toArray⟩ : ByteArray).size) := by rw [hsz]; decide
  have hc2 : ¬ (9223372036854775807 < U1.size + (⟨n4.toArray⟩ : ByteArray).size) := by rw [← hU1, ByteArray.size_append, hsz, hs4]; decide
  have hc3 : ¬ (9223372036854775807 < U2.size + n.size) := by rw [← hU2, ← hU1, ByteArray.size_append, ByteArray.size_append, hsz, hs4, hn]; decide
  simp only [Act.put]
  refine wp_region_noPanic ?_
  refine wp_region_held_drew (S := fun w' => (convert 32 9 (.slice (some ⟨w.heap.size, 0, none⟩) 32 32)).run Try.prog w' = .ok (.string ⟨k.toArray⟩) w' ∧ (convert 32 9 (.slice (some ⟨g7, 0, none⟩) 4 4)).run Try.prog w' = .ok (.string ⟨n4.toArray⟩) w') (by kernel_rfl) ⟨conv_bytes E.1.drew 32 32 HK.out, conv_bytes E.2.2.1.drew 4 4 H4.out⟩ (fun hS => ?_)
  refine take1 hS 0 13 (.slice (some ⟨w.heap.size, 0, none⟩) 32 32) _ rfl (by kernel_rfl) (by kernel_rfl) (by kernel_rfl) (fun _ _ _ h => h) rfl rfl (fun w' h => by go_simp) ?_
  simp only [Act.put, List.setIfInBounds_toArray, List.set_cons_zero, List.set_cons_succ]
  refine take1 hS 1 14 (.string ⟨k.toArray⟩) _ rfl (by kernel_rfl) (by kernel_rfl) (by kernel_rfl) (fun _ _ _ h => h) rfl rfl (fun w' h => by obtain ⟨h1, h2⟩ := h; go_simp) ?_
  simp only [Act.put, List.setIfInBounds_toArray, List.set_cons_zero, List.set_cons_succ]
  refine take1 hS 2 15 (.string U1) _ rfl (by kernel_rfl) (by kernel_rfl) (by kernel_rfl) (fun _ _ _ h => h) rfl rfl (fun w' h => by exact exec_cat (.const (.string ⟨#[101, 120, 112, 97, 110, 100, 32, 51, 50, 45, 98, 121, 116, 101, 32, 107]⟩)) (.tmp 14) _ _ _ hU1 hc1 rfl rfl rfl) ?_
  simp only [Act.put, List.setIfInBounds_toArray, List.set_cons_zero, List.set_cons_succ]
  refine take1 hS 3 16 (.slice (some ⟨g7, 0, none⟩) 4 4) _ rfl (by kernel_rfl) (by kernel_rfl) (by kernel_rfl) (fun _ _ _ h => h) rfl rfl (fun w' h => by go_simp) ?_
  simp only [Act.put, List.setIfInBounds_toArray, List.set_cons_zero, List.set_cons_succ]
  refine take1 hS 4 17 (.string ⟨n4.toArray⟩) _ rfl (by kernel_rfl) (by kernel_rfl) (by kernel_rfl) (fun _ _ _ h => h) rfl rfl (fun w' h => by obtain ⟨h1, h2⟩ := h; go_simp) ?_
  simp only [Act.put, List.setIfInBounds_toArray, List.set_cons_zero, List.set_cons_succ]
  refine take1 hS 5 18 (.string U2) _ rfl (by kernel_rfl) (by kernel_rfl) (by kernel_rfl) (fun _ _ _ h => h) rfl rfl (fun w' h => by exact exec_cat (.tmp 15) (.tmp 17) _ _ _ hU2 hc2 rfl rfl rfl) ?_
  simp only [Act.put, List.setIfInBounds_toArray, List.set_cons_zero, List.set_cons_succ]
  refine take1 hS 6 19 (.string n) _ rfl (by kernel_rfl) (by kernel_rfl) (by kernel_rfl) (fun _ _ _ h => h) rfl rfl (fun w' h => by go_simp) ?_
  simp only [Act.put, List.setIfInBounds_toArray, List.set_cons_zero, List.set_cons_succ]
  refine take1 hS 7 20 (.string T) _ rfl (by kernel_rfl) (by kernel_rfl) (by kernel_rfl) (fun _ _ _ h => h) rfl rfl (fun w' h => by exact exec_cat (.tmp 18) (.tmp 19) _ _ _ hUT hc3 rfl rfl rfl) ?_
  simp only [Act.put, List.setIfInBounds_toArray, List.set_cons_zero, List.set_cons_succ]
  refine take1 hS 8 8 (.string T) _ rfl (by kernel_rfl) (by kernel_rfl) (by kernel_rfl) (fun _ _ _ h => h) rfl rfl (fun w' h => by go_simp) ?_
  simp only [Act.put, List.setIfInBounds_toArray, List.set_cons_zero, List.set_cons_succ]
  refine wpAnyH_done (by kernel_rfl) ?_ _
  refine NoPanic.normal ?_
  clear hS hc1 hc2 hc3 hsz hs4 HT hU1 hU2 hUT
  replace E := E.drew
  generalize wr.drew = w2 at E ⊢
  clear wr
  have hC : Has (w2.alloc (.cells z16 50)) w2.heap.size 50 (ws (stTo T.data.toList 0)) := by rw [stTo_zero]; exact Has.fresh w2 50 _
  have hb2 := E.2.2.2.alloc E.2.2.2.size (.cells z16 50)
  have hB := E.2.1.alloc (.cells z16 50)
  have hg : w.heap.size + 1 < w2.heap.size := E.2.1.lt
  clear E
  go_wp2_with fail
  change Code.wp _ _ _ _ (w2.alloc (.cells z16 50))
  generalize w2.alloc (.cells z16 50) = w3 at hC hb2 hB ⊢
  generalize w2.heap.size = g9 at hC hg ⊢
  go_loopw [21] (fun i wr => ∃ j : Nat, j ≤ 16 ∧ i = .int .i64 (j : Int) ∧ Has wr g9 50 (ws (stTo T.data.toList j)) ∧ Has wr (w.heap.size + 1) 50 z16 ∧ Below w.heap.size w wr) (fun i _ => 16 - (intOf i).toNat)
  case atStart => exact ⟨0, by omega, rfl, hC, hB, hb2⟩
  case round =>
    clear hC hB hb2
    obtain ⟨j, hj, rfl, hC, hB, hb2⟩ := hrel
    by_cases hlt : j < 16
    · have hjb : decide ((j : Int) < 16) = true := by simp; omega
      have hTs := HTS.out
      have hcall := wordAt_any T (4 * j) (by omega) (by omega)
      have hset := stTo_set T.data.toList j
      have hw : wordOf (bAt T (4 * j + 3)) (bAt T (4 * j + 2)) (bAt T (4 * j + 1)) (bAt T (4 * j)) = wAt T.data.toList j := rfl
      rw [hw] at hcall
      generalize wAt T.data.toList j = x at hcall hset
      have HC := Lib.hid hcall
      have HSET := Lib.hid hset
      clear hcall hset hw hTs
      have e4 : (((4 * j : Nat) : Nat) : Int) = 4 * (j : Int) := by omega
      rw [e4] at HC
      clear e4
      have ci := hC.word j (by rw [stTo_length]; omega)
      have fi := hC.frozen j
      go_wp2_with fail
      refine (HC.out _).mono ?_
      rintro e w4 ⟨rfl, hb1⟩
      replace hC := hC.below hb1 hC.lt
      replace hB := hB.below hb1 hB.lt
      replace hb2 := hb2.trans (hb1.mono hb2.size)
      clear hb1 ci fi
      have ci := hC.word j (by rw [stTo_length]; omega)
      have fi := hC.frozen j
      go_wp2
      go_roundw
      case rel =>
        refine ⟨j + 1, by omega, by go_num, ?_, hB.other (by show _ ≠ g9; omega) _, hb2.setCell (by show _ ≤ g9; omega) _⟩
        rw [← HSET.out]
        exact hC.setW j x
      case measure => simp [intOf]; omega
    · have hj2 : j = 16 := by omega
      subst hj2
      have hl := stTo_length T.data.toList 16
      generalize hq : stTo T.data.toList 16 = L at hC hl
      have HL := Lib.hid hl
      have HQ := Lib.hid hq
      clear hl hq
      go_wp2_with (first
        | (refine wpList_load_row rfl 50 (.tmp 9) rfl g9 rfl 50 (ws L) (0, 0) _ hC Try.underlying50 rfl (info16 L HL.out) ?_)
        | (refine wpList_store_row rfl 50 (.tmp 6) (.tmp 31) rfl (w.heap.size + 1) (ws L) rfl rfl 50 z16 hB (info16 L HL.out) (z16_size L HL.out) (ws_one L) ?_))
      refine bodyPost_ret (v := .agg (ws L)) (results_cell_row rfl _ _ (w.heap.size + 1) 50 (ws L) (0, 0) _ rfl (hB.setRow _) Try.underlying50 rfl (info16 L HL.out)) rfl ⟨by rw [HQ.out], below_setRow hb2 (by omega) _⟩
end Go.Proofs.Ytfhjokbbaoldiaa
