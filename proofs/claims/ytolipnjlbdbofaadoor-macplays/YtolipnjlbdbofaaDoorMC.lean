/- mac.filled: walked. Condition: the table of constants lies in memory as the program's text lays it. -/
import Derived.Test.YtolipnjlbdbofaaDoorMB
namespace Go.Proofs.YtolipnjlbdbofaaDoor
open Go.RowKit
/-- zero bytes of a key's block -/
def z64 : Array Value := bs (List.replicate 64 0)
theorem copy_key {w : World} {g : Nat} (h : Has w g 45 z64) (s : ByteArray) (hs : s.size ≤ 64) :
    (Builtin.copy_ #[27, 9] 3 #[.slice (some ⟨g, 0, none⟩) 64 64, .string s]).run Tryd.prog w = .ok (.int .i64 (s.size : Int)) (w.setRow g (bs (s.data.toList ++ List.replicate (64 - s.size) 0))) := by
  have h1 := Lib.run_copy_row_string (P := Tryd.prog) w 27 9 3 5 g 0 64 64 s z64 45 Tryd.underlying27 (by kernel_rfl) h hs (by unfold z64; rw [bs_size]; simpa using hs)
  rw [h1]
  have e : (z64.toList.take 0 ++ Lib.byteCells s.data.toList ++ z64.toList.drop (0 + s.size)).toArray = bs (s.data.toList ++ List.replicate (64 - s.size) 0) := by
    have hz : z64.toList = List.replicate 64 (B8 0) := by simp only [z64, bs, List.map_replicate]
    rw [hz, List.drop_replicate, List.take_zero, List.nil_append, Nat.zero_add]
    unfold bs Lib.byteCells
    rw [List.map_append, List.map_replicate]
  rw [e]
  rfl
theorem info64 (l : List UInt8) (hl : l.length = 64) : (Tryd.prog.info? 45).map (·.size) = some (bs l).size := by
  rw [bs_size, hl]; exact (by kernel_rfl : (Tryd.prog.info? 45).map (·.size) = some 64)
theorem info32 (l : List UInt8) (hl : l.length = 32) : (Tryd.prog.info? 25).map (·.size) = some (bs l).size := by
  rw [bs_size, hl]; exact (by kernel_rfl : (Tryd.prog.info? 25).map (·.size) = some 32)
theorem z64_size (l : List UInt8) (hl : l.length = 64) : z64.size = (bs l).size := by unfold z64; rw [bs_size, bs_size, hl]; rfl
theorem z32_size (l : List UInt8) (hl : l.length = 32) : z32.size = (bs l).size := by unfold z32; rw [bs_size, bs_size, hl]; rfl
set_option maxHeartbeats 400000 in
theorem keyFilled_short (s : ByteArray) (hs : s.size ≤ 64) (w : World) :
    Calls Tryd.prog 20 #[.string s] w fun e w' => e = .returned (.agg (bs (key64 s.data.toList))) ∧ Below w.heap.size w w' := by
  obtain ⟨L, hL⟩ : ∃ L, s.data.toList ++ List.replicate (64 - s.size) 0 = L := ⟨_, rfl⟩
  have hk : key64 s.data.toList = L := by rw [key64_short _ (by rw [len_list]; exact hs), len_list, hL]
  have hl : L.length = 64 := by rw [← hk]; exact key64_length _
  have hA : Has ((w.alloc (.cells z64 45)).alloc (.cells z64 45)) w.heap.size 45 z64 := (Has.fresh w 45 _).alloc _
  have hB : Has ((w.alloc (.cells z64 45)).alloc (.cells z64 45)) (w.heap.size + 1) 45 z64 := heap_alloc2_new w _ _
  have hb : Below w.heap.size w ((w.alloc (.cells z64 45)).alloc (.cells z64 45)) := ((Below.refl _ _).alloc (Nat.le_refl _) _).alloc (by simp) _
  have t1 : decide (64 < (s.size : Int)) = false := by simp; omega
  have HK := Lib.hid hk
  have HL := Lib.hid hl
  go_enter Tryd.func20, Tryd.ntmps20
  go_upto_region 5 with fail
  change Code.wp _ _ _ _ ((w.alloc (.cells z64 45)).alloc (.cells z64 45))
  generalize (w.alloc (.cells z64 45)).alloc (.cells z64 45) = wr at hA hB hb ⊢
  have hcp := copy_key hB s hs
  rw [hL] at hcp
  clear hL hk hl
  have i2 := hB.setRow (bs L)
  have i1 := hA.setRow_other (g' := w.heap.size + 1) (by omega) (bs L)
  have hbb := below_setRow hb (g := w.heap.size + 1) (by omega) (bs L)
  clear hA hB hb
  go_wp2_with (first
    | (refine wpList_load_row rfl 45 (.tmp 4) rfl (w.heap.size + 1) rfl 45 (bs L) (0, 0) _ i2 Tryd.underlying45 rfl (info64 L HL.out) ?_)
    | (refine wpList_store_row rfl 45 (.tmp 2) (.tmp 15) rfl w.heap.size (bs L) rfl rfl 45 z64 i1 (info64 L HL.out) (z64_size L HL.out) (bs_one L) ?_))
  refine bodyPost_ret (v := .agg (bs L)) (results_cell_row rfl _ _ w.heap.size 45 (bs L) (0, 0) _ rfl (i1.setRow _) Tryd.underlying45 rfl (info64 L HL.out)) rfl ⟨by rw [HK.out], below_setRow hbb (Nat.le_refl _) _⟩
theorem str_list (l : List UInt8) : (⟨l.toArray⟩ : ByteArray).data.toList = l := rfl
theorem str_size (l : List UInt8) : (⟨l.toArray⟩ : ByteArray).size = l.length := rfl
set_option maxHeartbeats 400000 in
theorem keyFilled_long (s : ByteArray) (hs : 64 < s.size) (hm : s.size ≤ 900000) (w : World) (hT : HasK w) :
    Calls Tryd.prog 20 #[.string s] w fun e w' => e = .returned (.agg (bs (key64 s.data.toList))) ∧ Below w.heap.size w w' := by
  obtain ⟨K, hK⟩ : ∃ K, keyL (sumW s.data.toList) = K := ⟨_, rfl⟩
  have hKl : K.length = 32 := by rw [← hK]; exact keyL_length _
  obtain ⟨L, hL⟩ : ∃ L, K ++ List.replicate (64 - K.length) 0 = L := ⟨_, rfl⟩
  have hk : key64 s.data.toList = L := by rw [key64_long _ (by rw [len_list]; exact hs), hK, key64_short _ (by omega), hL]
  have hl : L.length = 64 := by rw [← hk]; exact key64_length _
  have hc := sum_any s hm
  rw [hK] at hc
  have HC := Lib.hid hc
  clear hc hK
  have hA : Has (w.alloc (.cells z64 45)) w.heap.size 45 z64 := Has.fresh w 45 _
  have hb : Below w.heap.size w (w.alloc (.cells z64 45)) := (Below.refl _ _).alloc (Nat.le_refl _) _
  have t1 : decide (64 < (s.size : Int)) = true := by simp; omega
  have HK := Lib.hid hk
  have HL := Lib.hid hl
  have HKL := Lib.hid hKl
  go_enter Tryd.func20, Tryd.ntmps20
  go_wp2_with fail
  change Calls _ _ _ (w.alloc (.cells z64 45)) _
  generalize w.alloc (.cells z64 45) = wa at hA hb ⊢
  refine (HC.out _ (hT.below hT.lt hb)).mono ?_
  rintro e w1 ⟨rfl, hb1⟩
  replace hA := hA.below hb1 hA.lt
  replace hb := hb.trans (hb1.mono hb.size)
  clear hb1 wa HC
  have hS : Has (w1.alloc (.cells z32 25)) w1.heap.size 25 z32 := Has.fresh w1 25 _
  have hS2 := hS.setRow (bs K)
  have hA2 := (hA.alloc (.cells z32 25)).setRow_other (g' := w1.heap.size) (by have := hA.lt; omega) (bs K)
  have hb2 := below_setRow (hb.alloc hb.size (.cells z32 25)) (g := w1.heap.size) hb.size (bs K)
  have hsz : ((w1.alloc (.cells z32 25)).setRow w1.heap.size (bs K)).heap.size = w1.heap.size + 1 := by rw [size_setRow]; show (w1.heap.push _).size = _; simp
  go_upto_region 3 with
    (refine wpList_store_row rfl 25 (.tmp 3) (.tmp 9) rfl w1.heap.size (bs K) rfl rfl 25 z32 hS (info32 K HKL.out) (z32_size K HKL.out) (bs_one K) ?_)
  change Code.wp _ _ _ _ ((w1.alloc (.cells z32 25)).setRow w1.heap.size (bs K))
  have hg1 : w.heap.size < w1.heap.size + 1 := by have := hb.size; omega
  clear hS hA hb
  generalize (w1.alloc (.cells z32 25)).setRow w1.heap.size (bs K) = w2 at hS2 hA2 hb2 hsz ⊢
  have hcv := conv_bytes hS2 32 32 hKl
  go_upto_region 5 with fail
  clear hcv hS2
  change Code.wp _ _ _ _ (w2.alloc (.cells z64 45))
  have hB : Has (w2.alloc (.cells z64 45)) (w1.heap.size + 1) 45 z64 := by rw [← hsz]; exact Has.fresh w2 45 _
  clear hsz
  replace hA2 := hA2.alloc (.cells z64 45)
  replace hb2 := hb2.alloc hb2.size (.cells z64 45)
  generalize w2.alloc (.cells z64 45) = wr at hA2 hB hb2 ⊢
  generalize w1.heap.size + 1 = g at hB hg1 ⊢
  have hcp := copy_key hB ⟨K.toArray⟩ (by rw [str_size, hKl]; omega)
  rw [str_list, str_size, hL] at hcp
  clear hL hk hl
  have i2 := hB.setRow (bs L)
  have i1 := hA2.setRow_other (g' := g) (by omega) (bs L)
  have hbb := below_setRow hb2 (g := g) (by omega) (bs L)
  clear hA2 hB hb2
  go_wp2_with (first
    | (refine wpList_load_row rfl 45 (.tmp 4) rfl g rfl 45 (bs L) (0, 0) _ i2 Tryd.underlying45 rfl (info64 L HL.out) ?_)
    | (refine wpList_store_row rfl 45 (.tmp 2) (.tmp 15) rfl w.heap.size (bs L) rfl rfl 45 z64 i1 (info64 L HL.out) (z64_size L HL.out) (bs_one L) ?_))
  refine bodyPost_ret (v := .agg (bs L)) (results_cell_row rfl _ _ w.heap.size 45 (bs L) (0, 0) _ rfl (i1.setRow _) Tryd.underlying45 rfl (info64 L HL.out)) rfl ⟨by rw [HK.out], below_setRow hbb (Nat.le_refl _) _⟩
theorem keyFilled_any (s : ByteArray) (hm : s.size ≤ 900000) (w : World) (hT : HasK w) :
    Calls Tryd.prog 20 #[.string s] w fun e w' => e = .returned (.agg (bs (key64 s.data.toList))) ∧ Below w.heap.size w w' := by
  rcases Nat.lt_or_ge 64 s.size with h | h
  · exact keyFilled_long s h hm w hT
  · exact keyFilled_short s h w
end Go.Proofs.YtolipnjlbdbofaaDoor
