/- cha.Mask: walked. -/
import Derived.Test.YtfhjokbbaoldiaaTJ
namespace Go.Proofs.Ytfhjokbbaoldiaa
open Go.RowKit
set_option maxRecDepth 20000 in
set_option maxHeartbeats 400000 in
theorem mask3_not (k : List UInt8) (c : UInt32) (n s : ByteArray) (hn : n.size ≠ 12) (w : World) :
    Calls Try.prog 18 #[.agg (bs k), W32 c, .string n, .string s] w fun e w' => e = .returned (.tuple #[.string ⟨#[]⟩, .int .i64 1]) ∧ Below w.heap.size w w' := by
  have hb : Below w.heap.size w (w.alloc (.cells (bs k) 23)) := (Below.refl _ _).alloc (Nat.le_refl _) _
  have t1 : ((n.size : Int) != 12) = true := by simp; omega
  go_enter Try.func18, Try.ntmps18
  go_wp2
  go_ret2
  exact ⟨rfl, hb⟩
theorem conv_rowB {w : World} {g : Nat} {l : List UInt8} (h : RowB w g l) (cap n : Nat) (hn : l.length = n) :
    (convert 32 9 (.slice (some ⟨g, 0, none⟩) n cap)).run Try.prog w = .ok (.string ⟨l.toArray⟩) w := conv_range h.range cap n hn
set_option maxRecDepth 20000 in
set_option maxHeartbeats 2000000 in
theorem mask3_any (k : List UInt8) (hk : k.length = 32) (c : UInt32) (n s : ByteArray) (hn : n.size = 12) (hs : s.size ≤ 1000000) (w : World) :
    Calls Try.prog 18 #[.agg (bs k), W32 c, .string n, .string s] w fun e w' => e = .returned (.tuple #[.string ⟨(maskL (fst0 k c n.data.toList) s.data.toList).toArray⟩, .int .i64 0]) ∧ Below w.heap.size w w' := by
  have h1 := first_any k hk c n hn
  have hl := fst0_length k c n.data.toList
  generalize fst0 k c n.data.toList = v at h1 hl ⊢
  have H1 := Lib.hid h1
  have HV := Lib.hid hl
  have HK := Lib.hid hk
  clear h1 hl hk
  have hA : Has (w.alloc (.cells (bs k) 23)) w.heap.size 23 (bs k) := Has.fresh w 23 _
  have hb : Below w.heap.size w (w.alloc (.cells (bs k) 23)) := (Below.refl _ _).alloc (Nat.le_refl _) _
  go_enter Try.func18, Try.ntmps18
  go_upto_region 1 with fail
  generalize w.alloc (.cells (bs k) 23) = w0 at hA hb ⊢
  go_wp2_with (refine wpList_load_row rfl 23 (.tmp 4) rfl w.heap.size rfl 23 (bs k) (0, 0) _ hA Try.underlying23 rfl (infoKey k HK.out) ?_)
  refine (H1.out _).mono ?_
  rintro e w1 ⟨rfl, hb1⟩
  replace hb := hb.trans (hb1.mono hb.size)
  clear hb1 hA
  have hN : Has (w1.alloc (.cells z16 50)) w1.heap.size 50 z16 := Has.fresh w1 50 _
  have hN2 := hN.setRow (ws v)
  have hb2 := below_setRow (hb.alloc hb.size (.cells z16 50)) (g := w1.heap.size) hb.size (ws v)
  go_upto_region 4 with
    (refine wpList_store_row rfl 50 (.tmp 10) (.tmp 19) rfl w1.heap.size (ws v) rfl rfl 50 z16 hN (info16 v HV.out) (z16_size v HV.out) (ws_one v) ?_)
  change Code.wp _ _ _ _ ((w1.alloc (.cells z16 50)).setRow w1.heap.size (ws v))
  have hg := hb.size
  generalize (w1.alloc (.cells z16 50)).setRow w1.heap.size (ws v) = w2 at hN2 hb2 ⊢
  clear hN hb
  generalize w1.heap.size = g10 at hN2 hg ⊢
  have hcv := run_bytes_of_string (P := Try.prog) w2 9 32 5 s Try.underlying9 Try.underlying32 Try.underlying5
  have hrow := rowB_bytes w2.drew s (grownCap w2 s.size 0 5) 5 (bytesRow s (grownCap w2 s.size 0 5)).size (by unfold bytesRow; simp)
  have hB3 := (hb2.drew).alloc (w := w2.drew) hb2.size (.cells (bytesRow s (grownCap w2 s.size 0 5)) 5 ((bytesRow s (grownCap w2 s.size 0 5)).size, (bytesRow s (grownCap w2 s.size 0 5)).size + 1))
  have hN3 := (hN2.drew).alloc (.cells (bytesRow s (grownCap w2 s.size 0 5)) 5 ((bytesRow s (grownCap w2 s.size 0 5)).size, (bytesRow s (grownCap w2 s.size 0 5)).size + 1))
  go_upto_region 5 with fail
  change Code.wp _ _ _ _ (w2.drew.alloc (.cells (bytesRow s (grownCap w2 s.size 0 5)) 5 ((bytesRow s (grownCap w2 s.size 0 5)).size, (bytesRow s (grownCap w2 s.size 0 5)).size + 1)))
  clear hcv
  have hg2 : g10 < w2.heap.size := hN2.lt
  have hrow2 : RowB _ w2.heap.size s.data.toList := hrow
  clear hrow
  generalize w2.drew.alloc (.cells (bytesRow s (grownCap w2 s.size 0 5)) 5 ((bytesRow s (grownCap w2 s.size 0 5)).size, (bytesRow s (grownCap w2 s.size 0 5)).size + 1)) = w3 at hrow2 hB3 hN3 ⊢
  have hgB := hb2.size
  clear hN2 hb2
  have hcap := grownCap_ge w2 s.size 0 5
  generalize grownCap w2 s.size 0 5 = cap at hcap ⊢
  generalize w2.heap.size = g11 at hrow2 hg2 hgB ⊢
  clear w2 w1 w0
  have hsl := len_list s
  obtain ⟨S, hS0⟩ : ∃ S, s.data.toList = S := ⟨_, rfl⟩
  rw [hS0] at hrow2 hsl
  have HS0 := Lib.hid hS0
  clear hS0
  go_wp2
  go_loopw [12] (fun i wr => ∃ j : Nat, 64 * j < s.size + 64 ∧ i = .int .i64 ((64 * j : Nat) : Int) ∧ RowB wr g11 (mTo v S (64 * j)) ∧ Has wr g10 50 (ws (cnt v j)) ∧ Below w.heap.size w wr) (fun i _ => s.size - (intOf i).toNat)
  case atStart => exact ⟨0, by omega, rfl, by rw [Nat.mul_zero, mTo_zero]; exact hrow2, by rw [cnt_zero v HV.out]; exact hN3, hB3⟩
  case round =>
    clear hrow2 hB3 hN3 w3
    obtain ⟨j, hj, rfl, hrow, hN, hB⟩ := hrel
    obtain ⟨m, hm⟩ : ∃ m, 64 * j = m := ⟨_, rfl⟩
    have hcl : (cnt v j).length = 16 := by rw [cnt_length, HV.out]
    have hnc : cnt v (j + 1) = (cnt v j).set 12 ((cnt v j).getD 12 0 + 1) := by
      rw [← cnt_cnt v HV.out j 1]; rfl
    rw [hm] at hrow ⊢
    by_cases hlt : m < s.size
    · have t1 : decide ((m : Int) < (s.size : Int)) = true := by simp; omega
      obtain ⟨q, hq⟩ : ∃ q, min (m + 64) s.size = q := ⟨_, rfl⟩
      have hblk := blockOf_any (cnt v j) hcl
      have hbl := blkB_length (cnt v j) hcl
      have hxor := xorAt_mTo v S j (q - m) (by omega) (by omega)
      rw [hm] at hxor
      have hrl := mTo_length v S m
      generalize blkB (cnt v j) = b at hblk hbl hxor
      generalize cnt v j = u at hN hcl hnc hblk
      generalize mTo v S m = l at hrow hxor hrl
      have hmp := maskPiece_any b hbl l g11 m (q - m) (cap - m) (by omega) (by omega)
      rw [hxor] at hmp
      have HBK := Lib.hid hblk
      have HMP := Lib.hid hmp
      have HU := Lib.hid hcl
      have HNC := Lib.hid hnc
      clear hblk hmp hcl hnc hxor hbl
      go_wp2_with fail
      have e64 : IntKind.i64.wrap ((m : Int) + 64) = ((m + 64 : Nat) : Int) := by rw [IntWalk.i64_in _ (by omega)]; omega
      have q1 : m ≤ q := by omega
      have q2 : q ≤ s.size := by omega
      have q3 : (m : Int) ≤ (q : Int) := by omega
      have q4' : q ≤ cap := by omega
      have q5 : (q : Int) ≤ (cap : Int) := by omega
      refine wp_region_noPanic ?_
      refine wp_region_held_drew (S := fun w' => Has w' g10 50 (ws u)) (by kernel_rfl) hN.drew (fun hS => ?_)
      refine take1 hS 0 28 (.slice (some ⟨g11, 0, none⟩) s.size cap) _ rfl (by kernel_rfl) (by kernel_rfl) (by kernel_rfl) (fun _ _ _ h => h) rfl rfl (fun w' h => by go_simp) ?_
      simp only [Act.put, List.setIfInBounds_toArray, List.set_cons_zero, List.set_cons_succ]
      refine take1 hS 1 29 (.int .i64 (m : Int)) _ rfl (by kernel_rfl) (by kernel_rfl) (by kernel_rfl) (fun _ _ _ h => h) rfl rfl (fun w' h => by go_simp) ?_
      simp only [Act.put, List.setIfInBounds_toArray, List.set_cons_zero, List.set_cons_succ]
      refine take1 hS 2 30 (.int .i64 (m : Int)) _ rfl (by kernel_rfl) (by kernel_rfl) (by kernel_rfl) (fun _ _ _ h => h) rfl rfl (fun w' h => by go_simp) ?_
      simp only [Act.put, List.setIfInBounds_toArray, List.set_cons_zero, List.set_cons_succ]
      refine take1 hS 3 31 (.int .i64 ((m + 64 : Nat) : Int)) _ rfl (by kernel_rfl) (by kernel_rfl) (by kernel_rfl) (fun _ _ _ h => h) rfl rfl (fun w' h => by go_simp) ?_
      simp only [Act.put, List.setIfInBounds_toArray, List.set_cons_zero, List.set_cons_succ]
      refine take1 hS 4 32 (.slice (some ⟨g11, 0, none⟩) s.size cap) _ rfl (by kernel_rfl) (by kernel_rfl) (by kernel_rfl) (fun _ _ _ h => h) rfl rfl (fun w' h => by go_simp) ?_
      simp only [Act.put, List.setIfInBounds_toArray, List.set_cons_zero, List.set_cons_succ]
      refine take1 hS 5 33 (.int .i64 (s.size : Int)) _ rfl (by kernel_rfl) (by kernel_rfl) (by kernel_rfl) (fun _ _ _ h => h) rfl rfl (fun w' h => by go_simp) ?_
      simp only [Act.put, List.setIfInBounds_toArray, List.set_cons_zero, List.set_cons_succ]
      refine take1 hS 6 34 (.int .i64 (q : Int)) _ rfl (by kernel_rfl) (by kernel_rfl) (by kernel_rfl) (fun _ _ _ h => h) rfl rfl (fun w' h => by go_simp; split <;> omega) ?_
      simp only [Act.put, List.setIfInBounds_toArray, List.set_cons_zero, List.set_cons_succ]
      refine take1 hS 7 35 (.slice (some ⟨g11, m, none⟩) (q - m) (cap - m)) _ rfl (by kernel_rfl) (by kernel_rfl) (by kernel_rfl) (fun _ _ _ h => h) rfl rfl (fun w' h => by go_simp; intro hq0; omega) ?_
      simp only [Act.put, List.setIfInBounds_toArray, List.set_cons_zero, List.set_cons_succ]
      refine take1 hS 8 36 (.agg (ws u)) _ rfl (by kernel_rfl) (by kernel_rfl) (by kernel_rfl) (fun _ _ _ h => h) rfl rfl (fun w' h => by exact exec_load_row (P := Try.prog) 50 (.tmp 10) g10 h Try.underlying50 rfl (info16 u HU.out) rfl rfl) ?_
      simp only [Act.put, List.setIfInBounds_toArray, List.set_cons_zero, List.set_cons_succ]
      refine onlyCall 9 37 32 #[.agg (ws u)] _ (by kernel_rfl) rfl rfl rfl (by go_simp) (HBK.out _) ?_
      rintro e w4 ⟨rfl, hb1⟩
      replace hN := hN.drew.below hb1 hN.lt
      replace hrow := hrow.drew.below hb1 hrow.1
      replace hB := hB.drew.trans (hb1.mono hB.size)
      refine ⟨_, rfl, hN, ?_⟩
      clear hS hb1 HBK
      simp only [Act.put, List.setIfInBounds_toArray, List.set_cons_zero, List.set_cons_succ]
      have hcall := HMP.out w4 hrow
      refine onlyCall 10 38 31 #[.slice (some ⟨g11, m, none⟩) (q - m) (cap - m), .agg (bs b)] _ (by kernel_rfl) rfl rfl rfl (by go_simp) hcall ?_
      rintro e w5 ⟨rfl, hrow2, hbut⟩
      replace hN := hbut.has hN (by omega)
      replace hB := hbut.below _ _ hgB hB.size hB
      refine ⟨_, rfl, hN, ?_⟩
      simp only [Act.put, List.setIfInBounds_toArray, List.set_cons_zero, List.set_cons_succ]
      refine wpAnyH_done (by kernel_rfl) ?_ _
      refine NoPanic.normal ?_
      clear hcall hrow hbut HMP w4
      have c12 := hN.word 12 (by rw [HU.out]; omega)
      have f12 := hN.frozen 12
      have hnx : mTo v S (m + (q - m)) = mTo v S (64 * (j + 1)) := by
        by_cases hqq : m + 64 ≤ s.size
        · rw [show m + (q - m) = 64 * (j + 1) from by omega]
        · rw [mTo_over v S _ (by omega), mTo_over v S _ (by omega)]
      rw [hnx] at hrow2
      have h1 : ((u.getD 12 0).toNat : Int) + 1 = ((u.getD 12 0).toNat : Int) + ((1 : UInt32).toNat : Int) := rfl
      have hadd := add32 (u.getD 12 0) 1
      rw [← h1] at hadd
      have hNC := HNC.out
      generalize u.getD 12 0 = x at c12 hNC hadd
      generalize x + 1 = y at hNC hadd
      have HNC2 := Lib.hid hNC
      have HAD := Lib.hid hadd
      clear hNC hadd h1 hnx HNC e64 q3 q5
      go_wp2
      rw [HAD.out]
      go_roundw
      case rel =>
        refine ⟨j + 1, by omega, ?_, hrow2.setOther (p := ⟨g10, 12, none⟩) (by show g11 ≠ g10; omega) _, ?_, hB.setCell (p := ⟨g10, 12, none⟩) hg _⟩
        · congr 1; omega
        · rw [HNC2.out]; exact hN.setW 12 y
      case measure => simp [intOf]; omega
    · have t1 : decide ((m : Int) < (s.size : Int)) = false := by simp; omega
      have hov := mTo_over v S m (by omega)
      rw [hov] at hrow
      have hml := maskL_length v S
      rw [hsl] at hml
      have hcv := conv_rowB hrow cap s.size hml
      have hfin : maskL v s.data.toList = maskL v S := by rw [HS0.out]
      have HF := Lib.hid hfin
      clear hfin hml hov hnc hcl
      go_wp2
      go_ret2
      exact ⟨by rw [HF.out]; rfl, hB⟩
end Go.Proofs.Ytfhjokbbaoldiaa
