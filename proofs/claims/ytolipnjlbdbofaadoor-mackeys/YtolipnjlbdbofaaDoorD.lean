/- sha.spread: a block of 64 bytes makes the 64 words of the document. Condition: the text has at least 64 bytes. -/
import Derived.Test.YtolipnjlbdbofaaDoorB
import Derived.Test.YtolipnjlbdbofaaDoorC
import Derived.RegionTactic
import Derived.BigRegion
namespace Go.Proofs.YtolipnjlbdbofaaDoor
open Go.RowKit


set_option maxHeartbeats 400000 in
theorem spread_any (s : ByteArray) (hs : 64 ≤ s.size) (hm : s.size ≤ 9223372036854775807) (w : World) :
    Calls Tryd.prog 36 #[.string s] w fun e w' => e = .returned (.agg (ws (wl s.data.toList 64))) ∧ Below w.heap.size w w' := by
  go_enter Tryd.func36, Tryd.ntmps36
  go_wp2
  go_loopw [10] (fun i wr => ∃ k : Nat, k ≤ 16 ∧ i = .int .i64 k ∧ Has wr w.heap.size 39 (ws (List.replicate 64 0)) ∧ Has wr (w.heap.size + 1) 39 (ws (wpad s.data.toList k)) ∧ Below w.heap.size w wr) (fun i _ => 16 - (intOf i).toNat)
  case atStart =>
    refine ⟨0, by omega, rfl, ?_, ?_, ?_⟩
    · exact (Has.fresh w 39 _).alloc _
    · rw [wpad_zero]; exact heap_alloc2_new w _ _
    · exact ((Below.refl _ _).alloc (Nat.le_refl _) _).alloc (by simp) _
  case round =>
    obtain ⟨k, hk, rfl, h0, h1, hb⟩ := hrel
    by_cases hlt : k < 16
    · have hsz : (s.extract (4 * k) (4 * k + 4)).size = 4 := by rw [ByteArray.size_extract]; omega
      have hc := word_any _ hsz
      rw [word_at] at hc
      have HC := Lib.hid hc
      have hl := wpad_length s.data.toList k (by omega)
      have hcell := h1.word k (by omega)
      have hfro := h1.frozen k
      clear hc hsz
      have hl := Lib.hid hl
      go_wp2_with (go_at_call 38; refine (HC.out _).mono ?_; rintro e w' ⟨rfl, n, rfl⟩)
      go_roundw
      case rel =>
        refine ⟨k + 1, by omega, by go_num, ?_, ?_, ?_⟩
        · exact (h0.drewN n).other (by simp) _
        · have h2 := (h1.drewN n).setW k (sw s.data.toList k)
          have h3 := wpad_set s.data.toList k (by omega)
          rw [if_pos hlt] at h3
          rw [h3] at h2
          exact h2
        · exact (below_drewN hb n).setCell (by simp) _
      case measure => simp [intOf]; omega
    · have hk16 : k = 16 := by omega
      subst hk16
      go_wp2
      rw [show ((16 : Nat) : Int) = 16 from rfl]
      go_loopw [5] (fun i wr => ∃ k : Nat, 16 ≤ k ∧ k ≤ 64 ∧ i = .int .i64 k ∧ Has wr w.heap.size 39 (ws (List.replicate 64 0)) ∧ Has wr (w.heap.size + 1) 39 (ws (wpad s.data.toList k)) ∧ Below w.heap.size w wr) (fun i _ => 64 - (intOf i).toNat)
      case atStart => exact ⟨16, by omega, by omega, rfl, h0, h1, hb⟩
      case round =>
        clear h0 h1 hb

        obtain ⟨k, hk0, hk, rfl, h0, h1, hb⟩ := hrel
        by_cases hlt : k < 64
        · have hl := wpad_length s.data.toList k (by omega)
          have c15 := h1.word (k - 15) (by omega)
          have c2 := h1.word (k - 2) (by omega)
          have c16 := h1.word (k - 16) (by omega)
          have c7 := h1.word (k - 7) (by omega)
          have ck := h1.word k (by omega)
          have fk := h1.frozen k
          have n15 : k - 15 < 64 := by omega
          have n2 : k - 2 < 64 := by omega
          have n16 : k - 16 < 64 := by omega
          have n7 : k - 7 < 64 := by omega
          have e15 : IntKind.i64.wrap ((k : Int) - 15) = ((k - 15 : Nat) : Int) := by rw [IntWalk.i64_in _ (by omega)]; omega
          have e2 : IntKind.i64.wrap ((k : Int) - 2) = ((k - 2 : Nat) : Int) := by rw [IntWalk.i64_in _ (by omega)]; omega
          have e16 : IntKind.i64.wrap ((k : Int) - 16) = ((k - 16 : Nat) : Int) := by rw [IntWalk.i64_in _ (by omega)]; omega
          have e7 : IntKind.i64.wrap ((k : Int) - 7) = ((k - 7 : Nat) : Int) := by rw [IntWalk.i64_in _ (by omega)]; omega
          rw [wpad_get _ _ _ (by omega)] at c15 c2 c16 c7
          have hnx : nextW (wl s.data.toList k) k = (wl s.data.toList k).getD (k - 16) 0 + sig0 ((wl s.data.toList k).getD (k - 15) 0) + (wl s.data.toList k).getD (k - 7) 0 + sig1 ((wl s.data.toList k).getD (k - 2) 0) := rfl
          generalize (wl s.data.toList k).getD (k - 15) 0 = x15 at c15 hnx
          generalize (wl s.data.toList k).getD (k - 2) 0 = x2 at c2 hnx
          generalize (wl s.data.toList k).getD (k - 16) 0 = x16 at c16 hnx
          generalize (wl s.data.toList k).getD (k - 7) 0 = x7 at c7 hnx
          have HL := Lib.hid hl
          have HN := Lib.hid hnx
          clear hl hnx
          go_wp2
          go_quiet (fail)
          clear e15 e2
          go_wp2_with (go_at_call 39; refine (turned_any _ _ (by omega) (by omega) _).mono ?_; rintro e w' ⟨rfl, rfl⟩)
          simp only [xor32, shr3, shr10, fold_sig0, fold_sig1]
          generalize sig0 x15 = y0 at HN ⊢
          generalize sig1 x2 = y1 at HN ⊢
          clear c15 c2 n15 n2
          go_region
          rw [sum4, ← HN.out]
          go_wp2
          go_roundw
          case rel =>
            refine ⟨k + 1, by omega, by omega, by go_num, ?_, ?_, ?_⟩
            · exact (h0.drewN _).other (by simp) _
            · have h2 := (h1.drewN (nq + 1)).setW k (nextW (wl s.data.toList k) k)
              have h3 := wpad_set s.data.toList k (by omega)
              rw [if_neg (by omega)] at h3
              rw [h3] at h2
              exact h2
            · exact (below_drewN hb _).setCell (by simp) _
          case measure => simp [intOf]; omega
        · have hk64 : k = 64 := by omega
          subst hk64
          rw [wpad_done] at h1
          have hwl := wl_length s.data.toList 64
          generalize hWq : wl s.data.toList 64 = W at h1 hwl
          have HW := Lib.hid hwl
          have HQ := Lib.hid hWq
          clear hwl hWq
          have hi : (Tryd.prog.info? 39).map (·.size) = some (ws W).size := by rw [ws_size, HW.out]; kernel_rfl
          have HI := Lib.hid hi
          clear hi
          have hz : (ws (List.replicate 64 0)).size = (ws W).size := by rw [ws_size, ws_size, HW.out, List.length_replicate]
          have HZ := Lib.hid hz
          clear hz
          go_wp2_with (first
            | (refine wpList_load_row rfl 39 (.tmp 3) rfl (w.heap.size + 1) rfl 39 (ws W) (0, 0) _ h1 Tryd.underlying39 rfl HI.out ?_)
            | (refine wpList_store_row rfl 39 (.tmp 2) (.tmp 67) rfl w.heap.size (ws W) rfl rfl 39 _ h0 HI.out HZ.out (ws_one W) ?_))
          refine bodyPost_ret (v := .agg (ws W)) (results_cell_row rfl _ _ w.heap.size 39 (ws W) (0, 0) _ rfl (h0.setRow _) Tryd.underlying39 rfl HI.out) rfl ⟨by rw [HQ.out], below_setRow hb (Nat.le_refl _) _⟩
end Go.Proofs.YtolipnjlbdbofaaDoor
