/- causeyref03.Mask: walked. -/
import Derived.Test.YtfhjokbbaoldiaaTQ
import Derived.Test.YtfhjokbbaoldiaaBV
namespace Go.Proofs.Ytfhjokbbaoldiaa
open Go.RowKit
/-- what memory holds in the midst of a mask -/
structure RM (w : World) (k : List UInt8) (W : World) : Prop where
  hk : Has W w.heap.size 22 (bs k)
  hb : Below w.heap.size w W
theorem RM.step {w W W' : World} {k : List UInt8} (h : RM w k W) (hb : Below W.heap.size W W') : RM w k W' := ⟨h.hk.below hb h.hk.lt, h.hb.trans (hb.mono h.hb.size)⟩
theorem RM.stepB {w W W' : World} {k : List UInt8} (h : RM w k W) (hb : Below (w.heap.size + 1) W W') : RM w k W' := ⟨h.hk.below hb (Nat.lt_succ_self _), h.hb.trans (hb.mono (Nat.le_succ _))⟩
theorem own_below2 {w w' : World} {base size n : Nat} {e : TypeId} {v : Value} {xs : List Value} (h : w.ownsRow base e size v n xs) (hb : Below w.heap.size w w') : w'.ownsRow base e size v n xs := by
  refine ⟨h.1, ?_⟩
  rcases h.2 with h0 | ⟨g, cap, cur, hv, hg, hh, h1⟩
  · exact Or.inl h0
  · exact Or.inr ⟨g, cap, cur, hv, hg, (hb.block g (Array.getElem?_eq_some_iff.1 hh).1).trans hh, h1⟩
/-- the block in use behind i bytes -/
def bkAt (v : List UInt32) : Nat → List UInt8
  | 0 => []
  | i + 1 => blkB (cnt v (i / 64))
theorem maskL_take (v : List UInt32) (s : List UInt8) (i : Nat) (h : i < s.length) : (maskL v s).take (i + 1) = (maskL v s).take i ++ [s.getD i 0 ^^^ kb v i] := by
  rw [← maskL_get v s i h, List.take_succ_eq_append_getElem (by rw [maskL_length]; exact h), List.getD_eq_getElem?_getD, List.getElem?_eq_getElem (by rw [maskL_length]; exact h)]
  rfl
theorem data_getD (s : ByteArray) (i : Nat) (h : i < s.size) : s.data.toList.getD i 0 = s[i] := (bAt_eq s i h).symm
set_option maxRecDepth 20000 in
set_option maxHeartbeats 2000000 in
theorem refMask_any (k : List UInt8) (hk : k.length = 32) (c : UInt32) (n s : ByteArray) (hn : n.size = 12) (hs : s.size ≤ 100000) (w : World) :
    Calls Try.prog 26 #[.agg (bs k), W32 c, .string n, .string s] w fun e w' => e = .returned (.string ⟨(maskL (fst0 k c n.data.toList) s.data.toList).toArray⟩) ∧ Below w.heap.size w w' := by
  have hB := fun j => refBlock_any k hk (c + UInt32.ofNat j) n hn
  simp only [fst0_cnt k hk] at hB
  have hv := fst0_length k c n.data.toList
  generalize fst0 k c n.data.toList = v at hB hv ⊢
  have HB := Lib.hid hB
  have HV := Lib.hid hv
  have HK := Lib.hid hk
  clear hB hv hk hn
  have hls := len_list s
  have E : RM w k (w.alloc (.cells (bs k) 22)) := ⟨Has.fresh w 22 _, (Below.refl _ _).alloc (Nat.le_refl _) _⟩
  have O : (w.alloc (.cells (bs k) 22)).ownsRow (w.heap.size + 1) 5 1 (.slice none 0 0) 0 (((maskL v s.data.toList).take 0).map B8) := World.ownsRow_nil _ _ _ _
  go_enter Try.func26, Try.ntmps26
  go_upto_region 1 with fail
  generalize w.alloc (.cells (bs k) 22) = w0 at E O ⊢
  go_wp2_with fail
  go_loopw [1, 9, 10, 11] (fun q o b i wr => ∃ (j : Nat) (a : Option Addr) (cap : Nat), j ≤ s.size ∧ q = W32 (c + UInt32.ofNat ((j + 63) / 64)) ∧ o = .slice a j cap ∧ b = .string ⟨(bkAt v j).toArray⟩ ∧ i = .int .i64 (j : Int) ∧ wr.ownsRow (w.heap.size + 1) 5 1 (.slice a j cap) j (((maskL v s.data.toList).take j).map B8) ∧ RM w k wr) (fun _ _ _ i _ => s.size - (intOf i).toNat)
  case atStart => exact ⟨0, none, 0, by omega, by show W32 c = W32 (c + UInt32.ofNat 0); rw [show c + UInt32.ofNat 0 = c from UInt32.add_zero c], rfl, rfl, rfl, O, E⟩
  case round =>
    clear E O w0
    obtain ⟨j, a, cap, hj, rfl, rfl, rfl, rfl, O, E⟩ := hrel
    by_cases hlt : j < s.size
    · have t1 : decide ((j : Int) < (s.size : Int)) = true := by simp; omega
      obtain ⟨M, hM⟩ : ∃ M, j % 64 = M := ⟨_, rfl⟩
      have eM : ((j : Int)).tmod 64 = (M : Int) := by rw [Int.tmod_eq_emod_of_nonneg (by omega)]; omega
      have hM64 : M < 64 := by omega
      have htk := maskL_take v s.data.toList j (by omega)
      have hkb : kb v j = (blkB (cnt v (j / 64))).getD M 0 := by unfold kb; rw [hM]
      rw [hkb, data_getD s j hlt] at htk
      have hbl := blkB_length (cnt v (j / 64)) (by rw [cnt_length]; exact HV.out)
      have hbn : bkAt v (j + 1) = blkB (cnt v (j / 64)) := rfl
      have hcall := HB.out (j / 64)
      have hcn : (j + 1 + 63) / 64 = j / 64 + 1 := by omega
      have hbp : M ≠ 0 → bkAt v j = blkB (cnt v (j / 64)) := fun h => by
        obtain ⟨i, rfl⟩ : ∃ i, j = i + 1 := ⟨j - 1, by omega⟩
        show blkB (cnt v (i / 64)) = _
        rw [show i / 64 = (i + 1) / 64 from by omega]
      generalize blkB (cnt v (j / 64)) = b at htk hbl hbn hcall hbp
      have hbs : (⟨b.toArray⟩ : ByteArray).size = 64 := hbl
      have hbg : (M : Nat) < (⟨b.toArray⟩ : ByteArray).size := by omega
      have hbe : b.getD M 0 = (⟨b.toArray⟩ : ByteArray)[M] := data_getD ⟨b.toArray⟩ M hbg
      rw [hbe] at htk
      have hbn2 : (⟨(bkAt v (j + 1)).toArray⟩ : ByteArray) = ⟨b.toArray⟩ := by rw [hbn]
      have hbp2 : M ≠ 0 → (⟨(bkAt v j).toArray⟩ : ByteArray) = ⟨b.toArray⟩ := fun h => by rw [hbp h]
      clear hbp hbn hkb hbe hbl
      generalize (⟨b.toArray⟩ : ByteArray) = bb at hbs hbg htk hcall hbn2 hbp2
      have hx := xor8 s[j] bb[M]
      generalize s[j] ^^^ bb[M] = y at htk hx
      have HTK := Lib.hid htk
      have HX := Lib.hid hx
      have HC := Lib.hid hcall
      have HBN := Lib.hid hbn2
      have hjB : (j : Int) < (s.size : Int) := by omega
      have hMB : (M : Int) < (bb.size : Int) := by omega
      clear htk hx hcall hbn2 hbs
      have t3 : M < bb.size := hbg
      by_cases hM0 : M = 0

      · have t2 : ((M : Int) == 0) = true := by rw [hM0]; rfl
        have hq : (j + 63) / 64 = j / 64 := by omega
        rw [hq]
        clear hM0 hq hM hbp2
        have hK := E.hk
        go_wp2_with (refine wpList_load_row rfl 22 (.tmp 4) rfl w.heap.size rfl 22 (bs k) (0, 0) _ hK Try.underlying22 rfl (info22 k HK.out) ?_)
        refine (HC.out _).mono ?_
        rintro e wq ⟨rfl, hbq⟩
        clear hK
        replace E := E.step hbq
        replace O := own_below2 O hbq
        clear hbq
        have hadd := add32 (c + UInt32.ofNat (j / 64)) 1
        have hnx : c + UInt32.ofNat (j / 64) + 1 = c + UInt32.ofNat (j / 64 + 1) := by rw [UInt32.ofNat_add, UInt32.add_assoc]; rfl
        rw [hnx] at hadd
        have h1 : ((1 : UInt32).toNat : Int) = 1 := rfl
        rw [h1] at hadd
        have HADD := Lib.hid hadd
        clear hadd hnx h1
        generalize c + UInt32.ofNat (j / 64) = x at HADD ⊢
        go_upto_region 9 with fail
        rw [HADD.out]
        go_upto_region 9 with fail
        refine wp_region_noPanic ?_
        refine wp_region_any (by kernel_rfl) ?_
        change wpAny _ _ _ _ _ _ _ (wq).drew
        replace E : RM w k (wq).drew := ⟨E.hk.drew, E.hb.drew⟩
        replace O : (wq).drew.ownsRow (w.heap.size + 1) 5 1 (.slice a j cap) j (((maskL v s.data.toList).take j).map B8) := O
        generalize (wq).drew = w2 at E O ⊢
        refine take0 0 27 (.slice a j cap) _ rfl (by kernel_rfl) (by kernel_rfl) (by kernel_rfl) (fun _ _ _ h => h) rfl rfl (fun w' => by go_simp) ?_
        simp only [Act.put, List.setIfInBounds_toArray, List.set_cons_zero, List.set_cons_succ]
        refine take0 1 28 (.string s) _ rfl (by kernel_rfl) (by kernel_rfl) (by kernel_rfl) (fun _ _ _ h => h) rfl rfl (fun w' => by go_simp) ?_
        simp only [Act.put, List.setIfInBounds_toArray, List.set_cons_zero, List.set_cons_succ]
        refine take0 2 29 (.int .i64 (j : Int)) _ rfl (by kernel_rfl) (by kernel_rfl) (by kernel_rfl) (fun _ _ _ h => h) rfl rfl (fun w' => by go_simp) ?_
        simp only [Act.put, List.setIfInBounds_toArray, List.set_cons_zero, List.set_cons_succ]
        refine take0 3 30 (B8 s[j]) _ rfl (by kernel_rfl) (by kernel_rfl) (by kernel_rfl) (fun _ _ _ h => h) rfl rfl (fun w' => by go_simp) ?_
        simp only [Act.put, List.setIfInBounds_toArray, List.set_cons_zero, List.set_cons_succ]
        refine take0 4 31 (.string bb) _ rfl (by kernel_rfl) (by kernel_rfl) (by kernel_rfl) (fun _ _ _ h => h) rfl rfl (fun w' => by go_simp) ?_
        simp only [Act.put, List.setIfInBounds_toArray, List.set_cons_zero, List.set_cons_succ]
        refine take0 5 32 (.int .i64 (j : Int)) _ rfl (by kernel_rfl) (by kernel_rfl) (by kernel_rfl) (fun _ _ _ h => h) rfl rfl (fun w' => by go_simp) ?_
        simp only [Act.put, List.setIfInBounds_toArray, List.set_cons_zero, List.set_cons_succ]
        refine take0 6 33 (.int .i64 (M : Int)) _ rfl (by kernel_rfl) (by kernel_rfl) (by kernel_rfl) (fun _ _ _ h => h) rfl rfl (fun w' => by go_simp) ?_
        simp only [Act.put, List.setIfInBounds_toArray, List.set_cons_zero, List.set_cons_succ]
        refine take0 7 34 (B8 bb[M]) _ rfl (by kernel_rfl) (by kernel_rfl) (by kernel_rfl) (fun _ _ _ h => h) rfl rfl (fun w' => by go_simp) ?_
        simp only [Act.put, List.setIfInBounds_toArray, List.set_cons_zero, List.set_cons_succ]
        refine take0 8 35 (B8 y) _ rfl (by kernel_rfl) (by kernel_rfl) (by kernel_rfl) (fun _ _ _ h => h) rfl rfl (fun w' => by go_simp; exact HX.out) ?_
        simp only [Act.put, List.setIfInBounds_toArray, List.set_cons_zero, List.set_cons_succ]
        have hbA : Below w2.heap.size w2 (w2.alloc (.cells (bs [y]) 5)) := (Below.refl _ _).alloc (Nat.le_refl _) _
        have hcell := (Has.fresh w2 5 (bs [y])).cell 0
        refine val0 9 36 (.slice (some ⟨w2.heap.size, 0, none⟩) 1 1) (w2.alloc (.cells (bs [y]) 5)) _ (by kernel_rfl) rfl rfl rfl (by go_simp; rfl) ?_
        simp only [Act.put, List.setIfInBounds_toArray, List.set_cons_zero, List.set_cons_succ]
        have hsz : w.heap.size + 1 ≤ w2.heap.size := E.hk.lt
        replace E := E.step hbA
        replace O := own_below2 O hbA
        have hsz2 : w.heap.size + 1 ≤ (w2.alloc (.cells (bs [y]) 5)).heap.size := Nat.le_trans hsz hbA.size
        clear hsz hbA
        generalize w2.heap.size = g2 at hcell ⊢
        generalize w2.alloc (.cells (bs [y]) 5) = w3 at E O hcell hsz2 ⊢
        refine append0 10 37 (.tmp 27) (.tmp 36) _ (by kernel_rfl) rfl rfl rfl rfl rfl rfl O hcell (by omega) hsz2 ?_
        intro a2 cap2 w4 O2 hb4
        simp only [Act.put, List.setIfInBounds_toArray, List.set_cons_zero, List.set_cons_succ]
        replace E := E.stepB hb4
        clear O hb4 hcell hsz2 w3
        rw [← HTK.out] at O2
        refine take0 11 9 (.slice a2 (j + 1) cap2) _ rfl (by kernel_rfl) (by kernel_rfl) (by kernel_rfl) (fun _ _ _ h => h) rfl rfl (fun w' => by go_simp) ?_
        simp only [Act.put, List.setIfInBounds_toArray, List.set_cons_zero, List.set_cons_succ]
        refine wpAny_end (by kernel_rfl) ?_ _
        refine NoPanic.normal ?_
        go_wp2
        go_roundw
        case rel => exact ⟨j + 1, a2, cap2, by omega, by rw [hcn], rfl, by rw [HBN.out], by go_num, O2, E⟩
        case measure => simp [intOf]; omega

      · have t2 : ((M : Int) == 0) = false := by simp; omega
        have hq : (j + 63) / 64 = j / 64 + 1 := by omega
        rw [hq, hbp2 hM0]
        clear hbp2 HC hM0 hq hM
        go_upto_region 9 with fail
        refine wp_region_noPanic ?_
        refine wp_region_any (by kernel_rfl) ?_
        change wpAny _ _ _ _ _ _ _ (wr).drew
        replace E : RM w k (wr).drew := ⟨E.hk.drew, E.hb.drew⟩
        replace O : (wr).drew.ownsRow (w.heap.size + 1) 5 1 (.slice a j cap) j (((maskL v s.data.toList).take j).map B8) := O
        generalize (wr).drew = w2 at E O ⊢
        refine take0 0 27 (.slice a j cap) _ rfl (by kernel_rfl) (by kernel_rfl) (by kernel_rfl) (fun _ _ _ h => h) rfl rfl (fun w' => by go_simp) ?_
        simp only [Act.put, List.setIfInBounds_toArray, List.set_cons_zero, List.set_cons_succ]
        refine take0 1 28 (.string s) _ rfl (by kernel_rfl) (by kernel_rfl) (by kernel_rfl) (fun _ _ _ h => h) rfl rfl (fun w' => by go_simp) ?_
        simp only [Act.put, List.setIfInBounds_toArray, List.set_cons_zero, List.set_cons_succ]
        refine take0 2 29 (.int .i64 (j : Int)) _ rfl (by kernel_rfl) (by kernel_rfl) (by kernel_rfl) (fun _ _ _ h => h) rfl rfl (fun w' => by go_simp) ?_
        simp only [Act.put, List.setIfInBounds_toArray, List.set_cons_zero, List.set_cons_succ]
        refine take0 3 30 (B8 s[j]) _ rfl (by kernel_rfl) (by kernel_rfl) (by kernel_rfl) (fun _ _ _ h => h) rfl rfl (fun w' => by go_simp) ?_
        simp only [Act.put, List.setIfInBounds_toArray, List.set_cons_zero, List.set_cons_succ]
        refine take0 4 31 (.string bb) _ rfl (by kernel_rfl) (by kernel_rfl) (by kernel_rfl) (fun _ _ _ h => h) rfl rfl (fun w' => by go_simp) ?_
        simp only [Act.put, List.setIfInBounds_toArray, List.set_cons_zero, List.set_cons_succ]
        refine take0 5 32 (.int .i64 (j : Int)) _ rfl (by kernel_rfl) (by kernel_rfl) (by kernel_rfl) (fun _ _ _ h => h) rfl rfl (fun w' => by go_simp) ?_
        simp only [Act.put, List.setIfInBounds_toArray, List.set_cons_zero, List.set_cons_succ]
        refine take0 6 33 (.int .i64 (M : Int)) _ rfl (by kernel_rfl) (by kernel_rfl) (by kernel_rfl) (fun _ _ _ h => h) rfl rfl (fun w' => by go_simp) ?_
        simp only [Act.put, List.setIfInBounds_toArray, List.set_cons_zero, List.set_cons_succ]
        refine take0 7 34 (B8 bb[M]) _ rfl (by kernel_rfl) (by kernel_rfl) (by kernel_rfl) (fun _ _ _ h => h) rfl rfl (fun w' => by go_simp) ?_
        simp only [Act.put, List.setIfInBounds_toArray, List.set_cons_zero, List.set_cons_succ]
        refine take0 8 35 (B8 y) _ rfl (by kernel_rfl) (by kernel_rfl) (by kernel_rfl) (fun _ _ _ h => h) rfl rfl (fun w' => by go_simp; exact HX.out) ?_
        simp only [Act.put, List.setIfInBounds_toArray, List.set_cons_zero, List.set_cons_succ]
        have hbA : Below w2.heap.size w2 (w2.alloc (.cells (bs [y]) 5)) := (Below.refl _ _).alloc (Nat.le_refl _) _
        have hcell := (Has.fresh w2 5 (bs [y])).cell 0
        refine val0 9 36 (.slice (some ⟨w2.heap.size, 0, none⟩) 1 1) (w2.alloc (.cells (bs [y]) 5)) _ (by kernel_rfl) rfl rfl rfl (by go_simp; rfl) ?_
        simp only [Act.put, List.setIfInBounds_toArray, List.set_cons_zero, List.set_cons_succ]
        have hsz : w.heap.size + 1 ≤ w2.heap.size := E.hk.lt
        replace E := E.step hbA
        replace O := own_below2 O hbA
        have hsz2 : w.heap.size + 1 ≤ (w2.alloc (.cells (bs [y]) 5)).heap.size := Nat.le_trans hsz hbA.size
        clear hsz hbA
        generalize w2.heap.size = g2 at hcell ⊢
        generalize w2.alloc (.cells (bs [y]) 5) = w3 at E O hcell hsz2 ⊢
        refine append0 10 37 (.tmp 27) (.tmp 36) _ (by kernel_rfl) rfl rfl rfl rfl rfl rfl O hcell (by omega) hsz2 ?_
        intro a2 cap2 w4 O2 hb4
        simp only [Act.put, List.setIfInBounds_toArray, List.set_cons_zero, List.set_cons_succ]
        replace E := E.stepB hb4
        clear O hb4 hcell hsz2 w3
        rw [← HTK.out] at O2
        refine take0 11 9 (.slice a2 (j + 1) cap2) _ rfl (by kernel_rfl) (by kernel_rfl) (by kernel_rfl) (fun _ _ _ h => h) rfl rfl (fun w' => by go_simp) ?_
        simp only [Act.put, List.setIfInBounds_toArray, List.set_cons_zero, List.set_cons_succ]
        refine wpAny_end (by kernel_rfl) ?_ _
        refine NoPanic.normal ?_
        go_wp2
        go_roundw
        case rel => exact ⟨j + 1, a2, cap2, by omega, by rw [hcn], rfl, by rw [HBN.out], by go_num, O2, E⟩
        case measure => simp [intOf]; omega

    · have hj2 : j = s.size := by omega
      subst hj2
      have t1 : decide ((s.size : Int) < (s.size : Int)) = false := by simp
      rw [List.take_of_length_le (by rw [maskL_length, len_list]; exact Nat.le_refl _)] at O
      have hcv := conv_own O
      have hbb := E.hb
      clear O E
      go_wp2
      go_ret
      exact ⟨rfl, hbb⟩
end Go.Proofs.Ytfhjokbbaoldiaa
