/- sha.blocks: eight words behind all whole blocks of a text of up to a million bytes. -/
import Derived.Test.YtolipnjlbdbofaaDoorG
import Derived.Test.YtolipnjlbdbofaaDoorP
import Derived.Test.YtolipnjlbdbofaaDoorQM
namespace Go.Proofs.YtolipnjlbdbofaaDoor
open Go.RowKit
theorem c8_same (a b : W8) : (c8 a).size = (c8 b).size := by unfold c8; rw [ws_size, ws_size]; rfl
theorem drop_extract (b : ByteArray) : (b.extract 64 b.size).data.toList = b.data.toList.drop 64 := by
  rw [ByteArray.data_extract, Array.toList_extract, List.extract_eq_take_drop]
  exact List.take_of_length_le (by simp)
set_option maxHeartbeats 400000 in
theorem blocks_any (v : W8) (s : ByteArray) (hm : s.size ≤ 1000000) (w : World) (hK : HasK w) :
    Calls Tryd.prog 30 #[.agg (c8 v), .string s] w fun e w' => e = .returned (.agg (c8 (blksN v s.data.toList (s.size / 64)))) ∧ Below w.heap.size w w' := by
  have HK := Lib.hid hK
  clear hK
  go_enter Tryd.func30, Tryd.ntmps30
  go_wp2
  go_loopw [1] (fun t wr => ∃ (k : Nat) (b : ByteArray), t = .string b ∧ b.data.toList = s.data.toList.drop (64 * k) ∧ b.size + 64 * k = s.size ∧ Has wr w.heap.size 41 (c8 (blksN v s.data.toList k)) ∧ Has wr (w.heap.size + 1) 41 z8 ∧ Below w.heap.size w wr) (fun t _ => strLen t)
  case atStart => exact ⟨0, s, rfl, by simp, by simp, (Has.fresh w 41 (c8 v)).alloc _, heap_alloc2_new w _ _, ((Below.refl _ _).alloc (Nat.le_refl _) _).alloc (by simp) _⟩
  case round =>
    obtain ⟨k, b, rfl, hb, hbs, i2, i4, hbr⟩ := hrel
    have HB := Lib.hid hb
    have HBS := Lib.hid hbs
    have hbm : b.size ≤ 1000000 := by omega
    clear hb hbs
    generalize hv : blksN v s.data.toList k = vk at i2
    have HV := Lib.hid hv
    clear hv
    by_cases h64 : 64 ≤ b.size
    · obtain ⟨vn, hvn⟩ : ∃ vn, vn = blk vk b.data.toList := ⟨_, rfl⟩
      have hcall := block_long vk b h64 (by omega)
      rw [← hvn] at hcall
      have HC := Lib.hid hcall
      have HVN := Lib.hid hvn
      clear hcall hvn
      go_wp2_with (first
        | (refine wpList_load_row rfl 41 (.tmp 2) rfl w.heap.size rfl 41 (c8 vk) (0, 0) _ i2 Tryd.underlying41 rfl (c8_info vk) ?_)
        | (go_at_call 34; refine (HC.out _ (HK.out.below HK.out.lt hbr)).mono ?_; rintro e w2 ⟨rfl, hb2⟩)
        | (refine wpList_store_row rfl 41 (.tmp 2) (.tmp 12) rfl w.heap.size (c8 vn) rfl rfl 41 (c8 vk) (i2.below hb2 i2.lt) (c8_info vn) (c8_same _ _) (c8_one vn) ?_))
      have hsz : (b.extract 64 b.size).size = b.size - 64 := by rw [ByteArray.size_extract]; omega
      have hBS := HBS.out
      go_roundw
      case rel =>
        refine ⟨k + 1, _, rfl, ?_, by omega, ?_, (i4.below hb2 i4.lt).setRow_other (by omega) _, below_setRow (hbr.trans (hb2.mono hbr.size)) (Nat.le_refl _) _⟩
        · rw [drop_extract, HB.out, List.drop_drop]; congr 1
        · have e1 : blksN v s.data.toList (k + 1) = vn := by
            show blk (blksN v s.data.toList k) (s.data.toList.drop (64 * k)) = vn
            rw [HV.out, ← HB.out, HVN.out]
          rw [e1]
          exact (i2.below hb2 i2.lt).setRow _
      case measure => simp only [strLen]; omega
    · have hbd : decide ((64 : Int) ≤ (b.size : Int)) = false := by simp; omega
      have hk : s.size / 64 = k := by have := HBS.out; omega
      have HKD := Lib.hid hk
      clear hk
      go_wp2_with (first
        | (refine wpList_load_row rfl 41 (.tmp 2) rfl w.heap.size rfl 41 (c8 vk) (0, 0) _ i2 Tryd.underlying41 rfl (c8_info vk) ?_)
        | (refine wpList_store_row rfl 41 (.tmp 4) (.tmp 13) rfl (w.heap.size + 1) (c8 vk) rfl rfl 41 z8 i4 (c8_info vk) (z8_size vk) (c8_one vk) ?_))
      refine bodyPost_ret (v := .agg (c8 vk)) (results_cell_row rfl _ _ (w.heap.size + 1) 41 (c8 vk) (0, 0) _ rfl (i4.setRow _) Tryd.underlying41 rfl (c8_info vk)) rfl ⟨by rw [HKD.out, HV.out], below_setRow hbr (by omega) _⟩
end Go.Proofs.YtolipnjlbdbofaaDoor
