/- sha.filling: what a text is filled up with, of texts of up to a million bytes. -/
import Derived.Test.YtolipnjlbdbofaaDoorE
import Derived.Test.YtolipnjlbdbofaaDoorF
namespace Go.Proofs.YtolipnjlbdbofaaDoor
open Go.RowKit
theorem u8_info : (Tryd.prog.info? 5).map (fun i => (i.zero, i.size, i.bytes)) = some (some (.int .u8 0), 1, 1) := by kernel_rfl
theorem make_bytes (m : Nat) (hm : m ≤ 1000000) (w : World) :
    (Instr.makeSlice 27 (.int .i64 (m : Int)) (.int .i64 (m : Int))).run Tryd.prog w = .ok (.slice (some ⟨w.heap.size, 0, none⟩) m m) (w.alloc (.cells (bs (List.replicate m 0)) 5)) := by
  obtain ⟨i, hi, hz0, hz1, hz2⟩ := info_parts u8_info
  have h := run_make (P := Tryd.prog) w 27 5 i (.int .u8 0) Tryd.underlying27 hi hz0 .i64 .i64 m m (by omega) (by omega) (by rw [hz2]; omega) (by omega)
  rw [h, hz1, Int.toNat_natCast, Nat.mul_one, ← made_bs]
  rfl
set_option maxHeartbeats 400000 in
theorem filling_any (n : Nat) (hn : n ≤ 1000000) (w : World) :
    Calls Tryd.prog 31 #[.int .i64 n] w fun e w' => e = .returned (.string ⟨(fillL n).toArray⟩) ∧ Below w.heap.size w w' := by
  have hmk := make_bytes (fillLen n) (by have := fillLen_lt n; omega) w
  rw [← fillLen_int] at hmk
  have hlen := fillLen_ge n
  have hlt := fillLen_lt n
  have HF := Lib.hid (show fillL n = fillTo (8 * n) (fillLen n) 8 from rfl)
  generalize fillLen n = m at hmk hlen hlt HF
  have hcell : (w.alloc (.cells (bs (List.replicate m 0)) 5)).cell? ⟨w.heap.size, 0, none⟩ = some (B8 ((List.replicate m (0 : UInt8)).getD 0 0)) := (Has.fresh w 5 _).byte 0 (by simp; omega)
  have hfro := (Has.fresh w 5 (bs (List.replicate m 0))).frozen 0
  go_enter Tryd.func31, Tryd.ntmps31
  go_wp2
  clear hmk hcell hfro
  generalize (64 - ((n : Int) + 1 + 8) % 64) % 64 = z1
  generalize 1 + -(((n : Int) + 1 + 8) % 64) % 64 + 8 = z3
  generalize 1 + -(((n : Int) + 1 + 8) % 64) % 64 = z2
  generalize 64 - ((n : Int) + 1 + 8) % 64 = z4
  generalize ((n : Int) + 1 + 8) % 64 = z5
  go_loopw [24] (fun i wr => ∃ k : Nat, k ≤ 8 ∧ i = .int .i64 k ∧ Has wr w.heap.size 5 (bs (fillTo (8 * n) m k)) ∧ Below w.heap.size w wr) (fun i _ => 8 - (intOf i).toNat)
  case atStart =>
    refine ⟨0, by omega, rfl, ?_, (Below.refl _ _).alloc (Nat.le_refl _) _⟩
    rw [fillTo_zero _ _ (by omega), ← bs_set]
    exact Has.fresh w 5 _
  case round =>
    obtain ⟨k, hk, rfl, i1, hbr⟩ := hrel
    by_cases hk8 : k < 8
    · have ci := i1.byte (m - 1 - k) (by rw [fillTo_length _ _ _ (by omega)]; omega)
      have fi := i1.frozen (m - 1 - k)
      go_wp2
      have eb : (n : Int) * 8 / 2 ^ (8 * k) % 256 = ((UInt8.ofNat ((8 * n) / 256 ^ k)).toNat : Int) := by rw [← byte_shift]; congr 2; omega
      rw [eb]
      go_roundw
      case rel =>
        refine ⟨k + 1, by omega, by go_num, ?_, hbr.setCell (Nat.le_refl _) _⟩
        rw [← fillTo_set _ _ _ (by omega)]
        exact i1.setB _ _
      case measure => simp [intOf]; omega
    · have hk9 : k = 8 := by omega
      subst hk9
      have hl := fillTo_length (8 * n) m 8 (by omega)
      have hcv := run_convert_bytes_back (P := Tryd.prog) wr 27 9 5 ⟨w.heap.size, 0, none⟩ m (fillTo (8 * n) m 8) Tryd.underlying27 Tryd.underlying5 Tryd.underlying9 (fun j hj => by
        have hadd : (⟨w.heap.size, 0, none⟩ : Addr).add j = ⟨w.heap.size, j, none⟩ := by unfold Addr.add; split <;> simp_all
        rw [hadd, i1.byte j hj, List.getD_eq_getElem?_getD, List.getElem?_eq_getElem hj]; rfl)
      rw [hl] at hcv
      have HL := Lib.hid hl
      clear hl
      go_wp2
      go_ret
      exact ⟨by rw [HF.out]; rfl, hbr⟩
end Go.Proofs.YtolipnjlbdbofaaDoor
