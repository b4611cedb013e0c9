/- The document's Parse: walked, whatever the text. -/
import Derived.Test.YtaoclfddamlcaaaWR
namespace Go.Proofs.Ytaoclfddamlcaaa
open Go.RowKit
set_option maxRecDepth 20000 in
set_option maxHeartbeats 1000000 in
theorem refParse9_short (s : ByteArray) (h : s.size < 28) (w : World) : Calls Try.prog 15 #[.string s] w fun e w' => e = .returned (.tuple #[.agg az.c, .int .i64 2]) ∧ Below w.heap.size w w' := by
  have M : Mem w [(w.heap.size, 26, az.c)] (w.alloc (.cells az.c 26)) := (Mem.init w).alloc _ rfl _ _
  have h28 : (s.size : Int) < 28 := by omega
  have r0 := M.row 0 rfl
  have M2 := M.store 0 rfl az.c
  have HM := Lib.hid M2
  clear M M2
  go_enter Try.func15, Try.ntmps15
  go_wp2_with (first
    | (refine wpList_store_row rfl 26 (.tmp 2) (.tmp 10) rfl w.heap.size az.c rfl rfl 26 az.c r0 (r9_info az_fit) rfl (A9.one _) ?_))
  exact bodyPost_ret (v := .tuple #[.agg az.c, .int .i64 2]) (results_row_reg rfl _ _ w.heap.size 26 az.c (0, 0) _ rfl (HM.out.row 0 rfl) Try.underlying26 rfl (r9_info az_fit) _ rfl) rfl ⟨rfl, HM.out.below⟩
theorem seven_list (s : ByteArray) : (s.extract 0 7).toList = cut9 s 0 7 := by
  rw [ByteArray.toList_eq, extract_list]
  rfl
set_option maxRecDepth 20000 in
set_option maxHeartbeats 1000000 in
theorem refParse9_no (s : ByteArray) (h : 28 ≤ s.size) (hn : cut9 s 0 7 = [0, 1, 8, 0, 6, 4, 0] → ¬ bAt s 7 = 1 ∧ ¬ bAt s 7 = 2) (w : World) : Calls Try.prog 15 #[.string s] w fun e w' => e = .returned (.tuple #[.agg az.c, .int .i64 3]) ∧ Below w.heap.size w w' := by
  have M : Mem w [(w.heap.size, 26, az.c)] (w.alloc (.cells az.c 26)) := (Mem.init w).alloc _ rfl _ _
  have h28 : ¬ (s.size : Int) < 28 := by omega
  have h7 : (7 : Int) ≤ (s.size : Int) := by omega
  have i7 : (7 : Int) < (s.size : Int) := by omega
  have l7 : 7 < s.size := by omega
  have e7 := bAt_eq s 7 l7
  have hq := seven_list s
  have r0 := M.row 0 rfl
  have M2 := M.store 0 rfl az.c
  have HM := Lib.hid M2
  clear M M2
  generalize cut9 s 0 7 = L at hn hq
  generalize bAt s 7 = b at hn e7
  by_cases hL : L = [0, 1, 8, 0, 6, 4, 0]
  · obtain ⟨n1, n2⟩ := hn hL
    have hne : ((s.extract 0 7).toList == [0, 1, 8, 0, 6, 4, 0]) = true := by rw [hq, hL]; rfl
    have k1 : ¬ b.toNat = 1 := fun e => n1 (UInt8.toNat_inj.1 e)
    have k2 : ¬ b.toNat = 2 := fun e => n2 (UInt8.toNat_inj.1 e)
    have j1 : ((b.toNat : Int) != 1) = true := by simp; omega
    have j2 : ((b.toNat : Int) != 2) = true := by simp; omega
    clear hn hL hq n1 n2
    go_enter Try.func15, Try.ntmps15
    go_wp2_with (first
      | (refine wpList_store_row rfl 26 (.tmp 2) (.tmp 24) rfl w.heap.size az.c rfl rfl 26 az.c r0 (r9_info az_fit) rfl (A9.one _) ?_))
    exact bodyPost_ret (v := .tuple #[.agg az.c, .int .i64 3]) (results_row_reg rfl _ _ w.heap.size 26 az.c (0, 0) _ rfl (HM.out.row 0 rfl) Try.underlying26 rfl (r9_info az_fit) _ rfl) rfl ⟨rfl, HM.out.below⟩
  · have hne : ((s.extract 0 7).toList == [0, 1, 8, 0, 6, 4, 0]) = false := by rw [hq]; simpa using hL
    clear hn hL hq
    go_enter Try.func15, Try.ntmps15
    go_wp2_with (first
      | (refine wpList_store_row rfl 26 (.tmp 2) (.tmp 24) rfl w.heap.size az.c rfl rfl 26 az.c r0 (r9_info az_fit) rfl (A9.one _) ?_))
    exact bodyPost_ret (v := .tuple #[.agg az.c, .int .i64 3]) (results_row_reg rfl _ _ w.heap.size 26 az.c (0, 0) _ rfl (HM.out.row 0 rfl) Try.underlying26 rfl (r9_info az_fit) _ rfl) rfl ⟨rfl, HM.out.below⟩
end Go.Proofs.Ytaoclfddamlcaaa
