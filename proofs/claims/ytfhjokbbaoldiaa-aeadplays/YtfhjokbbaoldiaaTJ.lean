/- cha.Block and cha.maskPiece: walked. -/
import Derived.Test.YtfhjokbbaoldiaaTI
import Derived.Test.YtfhjokbbaoldiaaHB
namespace Go.Proofs.Ytfhjokbbaoldiaa
open Go.RowKit
set_option maxRecDepth 20000 in
set_option maxHeartbeats 400000 in
theorem block3_not (k : List UInt8) (c : UInt32) (n : ByteArray) (hn : n.size ≠ 12) (w : World) :
    Calls Try.prog 22 #[.agg (bs k), W32 c, .string n] w fun e w' => e = .returned (.tuple #[.string ⟨#[]⟩, .int .i64 1]) ∧ Below w.heap.size w w' := by
  have hb : Below w.heap.size w (w.alloc (.cells (bs k) 23)) := (Below.refl _ _).alloc (Nat.le_refl _) _
  have t1 : ((n.size : Int) != 12) = true := by simp; omega
  go_enter Try.func22, Try.ntmps22
  go_wp2
  go_ret2
  exact ⟨rfl, hb⟩
set_option maxRecDepth 20000 in
set_option maxHeartbeats 1000000 in
theorem block3_any (k : List UInt8) (hk : k.length = 32) (c : UInt32) (n : ByteArray) (hn : n.size = 12) (w : World) :
    Calls Try.prog 22 #[.agg (bs k), W32 c, .string n] w fun e w' => e = .returned (.tuple #[.string ⟨(blkB (fst0 k c n.data.toList)).toArray⟩, .int .i64 0]) ∧ Below w.heap.size w w' := by
  have h1 := first_any k hk c n hn
  have hl := fst0_length k c n.data.toList
  generalize fst0 k c n.data.toList = v at h1 hl ⊢
  have h2 := blockOf_any v hl
  have hl2 := blkB_length v hl
  generalize blkB v = R at h2 hl2 ⊢
  have H1 := Lib.hid h1
  have H2 := Lib.hid h2
  have HR := Lib.hid hl2
  have HK := Lib.hid hk
  clear h1 h2 hl hl2 hk
  have hA : Has (w.alloc (.cells (bs k) 23)) w.heap.size 23 (bs k) := Has.fresh w 23 _
  have hb : Below w.heap.size w (w.alloc (.cells (bs k) 23)) := (Below.refl _ _).alloc (Nat.le_refl _) _
  go_enter Try.func22, Try.ntmps22
  go_upto_region 1 with fail
  generalize w.alloc (.cells (bs k) 23) = w0 at hA hb ⊢
  go_wp2_with (refine wpList_load_row rfl 23 (.tmp 3) rfl w.heap.size rfl 23 (bs k) (0, 0) _ hA Try.underlying23 rfl (infoKey k HK.out) ?_)
  refine (H1.out _).mono ?_
  rintro e w1 ⟨rfl, hb1⟩
  replace hb := hb.trans (hb1.mono hb.size)
  clear hb1 hA
  go_wp2_with fail
  refine (H2.out _).mono ?_
  rintro e w2 ⟨rfl, hb1⟩
  replace hb := hb.trans (hb1.mono hb.size)
  clear hb1 w1
  have hN : Has (w2.alloc (.cells zb64 53)) w2.heap.size 53 zb64 := Has.fresh w2 53 _
  have hN2 := hN.setRow (bs R)
  have hb2 := below_setRow (hb.alloc hb.size (.cells zb64 53)) (g := w2.heap.size) hb.size (bs R)
  go_upto_region 4 with
    (refine wpList_store_row rfl 53 (.tmp 8) (.tmp 16) rfl w2.heap.size (bs R) rfl rfl 53 zb64 hN (infoB64 R HR.out) (zb64_size R HR.out) (bs_one R) ?_)
  change Code.wp _ _ _ _ ((w2.alloc (.cells zb64 53)).setRow w2.heap.size (bs R))
  generalize (w2.alloc (.cells zb64 53)).setRow w2.heap.size (bs R) = w3 at hN2 hb2 ⊢
  have hcv := conv_bytes hN2 64 64 HR.out
  clear hN
  go_wp2
  go_ret2
  exact ⟨rfl, hb2⟩
set_option maxRecDepth 20000 in
set_option maxHeartbeats 1000000 in
theorem maskPiece_any (b : List UInt8) (hbl : b.length = 64) (l : List UInt8) (g o n cap : Nat) (hn : n ≤ 64) (ho : o + n ≤ l.length) (w : World) (h : RowB w g l) :
    Calls Try.prog 31 #[.slice (some ⟨g, o, none⟩) n cap, .agg (bs b)] w fun e w' => e = .returned (.tuple #[]) ∧ RowB w' g (xorAt l o n b) ∧ But g w w' := by
  have hA : Has (w.alloc (.cells (bs b) 53)) w.heap.size 53 (bs b) := Has.fresh w 53 _
  have hB := h.alloc (.cells (bs b) 53)
  have hB2 : But g w (w.alloc (.cells (bs b) 53)) := But.of ((Below.refl _ _).alloc (Nat.le_refl _) _)
  have hg := h.1
  have HBL := Lib.hid hbl
  clear h hbl
  go_enter Try.func31, Try.ntmps31
  go_wp2
  generalize w.alloc (.cells (bs b) 53) = w0 at hA hB hB2 ⊢
  go_loopw [7] (fun i wr => ∃ j : Nat, j ≤ n ∧ i = .int .i64 (j : Int) ∧ Has wr w.heap.size 53 (bs b) ∧ RowB wr g (xorAt l o j b) ∧ But g w wr) (fun i _ => n - (intOf i).toNat)
  case atStart => exact ⟨0, by omega, rfl, hA, by rw [xorAt_zero]; exact hB, hB2⟩
  case round =>
    clear hA hB hB2 w0
    obtain ⟨j, hj, rfl, hA, hB, hB2⟩ := hrel
    by_cases hlt : j < n
    · have t1 : decide ((j : Int) < (n : Int)) = true := by simp; omega
      have c2 := hA.byte j (by rw [HBL.out]; omega)
      obtain ⟨c1, f1⟩ := hB.2 (o + j) (by rw [xorAt_length]; omega)
      rw [xorAt_get _ _ _ _ _ (by omega), if_neg (by omega)] at c1
      have hset := xorAt_set l o j b (by omega)
      have hx := xor8 (l.getD (o + j) 0) (b.getD j 0)
      generalize l.getD (o + j) 0 = x1 at c1 hset hx
      generalize b.getD j 0 = x2 at c2 hset hx
      generalize x1 ^^^ x2 = x at hset hx
      have HSET := Lib.hid hset
      have HX := Lib.hid hx
      clear hset hx
      have h64 : (j : Int) < 64 := by omega
      go_wp2
      go_region
      rw [HX.out]
      go_wp2
      go_roundw
      case rel =>
        refine ⟨j + 1, by omega, by go_num, (hA.other (p := ⟨g, o + j, none⟩) (by show _ ≠ g; omega) _).drew, ?_, (hB2.setCell _ _).drew⟩
        rw [← HSET.out]
        exact (hB.set (o + j) (by rw [xorAt_length]; omega) x).drew
      case measure => simp [intOf]; omega
    · have hj2 : j = n := by omega
      subst hj2
      have t1 : decide ((j : Int) < (j : Int)) = false := by simp
      go_wp2
      go_end0
      exact ⟨rfl, hB, hB2⟩
end Go.Proofs.Ytfhjokbbaoldiaa
