/- causeyref01.Fill: walked, of texts of up to 400 bytes. -/
import Derived.Test.YtolipnjlbdbofaaDoorRH
import Derived.Test.YtolipnjlbdbofaaDoorQM
namespace Go.Proofs.YtolipnjlbdbofaaDoor
open Go.RowKit
theorem list_app (a b : ByteArray) : (a ++ b).data.toList = a.data.toList ++ b.data.toList := by rw [ByteArray.data_append, Array.toList_append]
theorem bytes_ext {a b : ByteArray} (h : a.data.toList = b.data.toList) : a = b := by
  cases a; cases b; congr; exact Array.toList_inj.1 h
set_option maxHeartbeats 400000 in
theorem refFill_any (s : ByteArray) (hs : s.size ≤ 400) (w : World) :
    Calls Tryd.prog 18 #[.string s] w fun e w' => e = .returned (.string (filled s)) ∧ Below w.heap.size w w' := by
  have hcat : ¬ (9223372036854775807 < s.size + 1) := by omega
  go_enter Tryd.func18, Tryd.ntmps18
  go_wp2
  obtain ⟨z, hz⟩ : ∃ z, z = fillLen s.size - 9 := ⟨_, rfl⟩
  have hz2 : ∀ j, j ≤ z → ((s.size + 1 + j) % 64 = 56 ↔ j = z) := fun j hj => by unfold fillLen at hz; omega
  have hz3 : z < 64 := by unfold fillLen at hz; omega
  have HZ := Lib.hid hz
  have HZ2 := Lib.hid hz2
  clear hz hz2 hcat
  go_loop [3] (fun t => ∃ (j : Nat) (b : ByteArray), j ≤ z ∧ t = .string b ∧ b.data.toList = s.data.toList ++ 128 :: List.replicate j 0) (fun t => 1000 - strLen t)
  case atStart => exact ⟨0, s ++ ⟨#[128]⟩, by omega, rfl, by rw [list_app]; rfl⟩
  case round =>
    obtain ⟨j, b, hj, rfl, hb⟩ := hrel
    have hbs : b.size = s.size + 1 + j := by rw [← len_list, hb]; simp; omega
    have hiff := HZ2.out j hj
    rw [← hbs] at hiff
    have HB := Lib.hid hb
    clear hb
    by_cases hjz : j < z
    · have t1 : ((b.size : Int) % 64 != 56) = true := by simp; omega
      have hcat : ¬ (9223372036854775807 < b.size + 1) := by omega
      clear hiff
      go_wp2
      go_round
      case rel => exact ⟨j + 1, b ++ ⟨#[0]⟩, by omega, rfl, by rw [list_app, HB.out, List.replicate_succ']; simp⟩
      case measure =>
        simp only [strLen, ByteArray.size_append]
        show 1000 - (b.size + 1) < 1000 - b.size
        omega
    · have hjz2 : j = z := by omega
      subst hjz2
      have t1 : ((b.size : Int) % 64 != 56) = false := by simp; omega
      clear hiff
      go_wp2
      generalize ((s.size : Int) + 1 + (j : Int)) % 64 = z1
      generalize (s.size : Int) + 1 + (j : Int) = z2
      have hN : 8 * (s.size : Int) = ((8 * s.size / 256 ^ 0 : Nat) : Int) := by simp
      rw [hN]
      obtain ⟨c, hc⟩ : ∃ c, c = 8 * s.size := ⟨_, rfl⟩
      rw [← hc]
      have hcb : c ≤ 3200 := by omega
      have HCC := Lib.hid hc
      clear hc hN HZ2 t1 hjz hj
      go_loopw [4, 5, 6] (fun n t i wr => ∃ (k : Nat) (b2 : ByteArray), k ≤ 8 ∧ n = .int .i64 ((c / 256 ^ k : Nat) : Int) ∧ t = .string b2 ∧ i = .int .i64 (k : Int) ∧ b2.data.toList = beTail c k ∧ Below w.heap.size w wr) (fun _ _ i _ => 8 - (intOf i).toNat)
      case atStart => exact ⟨0, ⟨#[]⟩, by omega, rfl, rfl, rfl, rfl, Below.refl _ _⟩
      case round =>
        obtain ⟨k, b2, hk, rfl, rfl, rfl, hb2, hbr⟩ := hrel
        have hb2s : b2.size = k := by rw [← len_list, hb2, beTail_length]
        by_cases hk8 : k < 8
        · have hnx : c / 256 ^ (k + 1) = c / 256 ^ k / 256 := by rw [Nat.pow_succ, Nat.div_div_eq_div_mul]
          have hbt : beTail c (k + 1) = UInt8.ofNat (c / 256 ^ k) :: b2.data.toList := by rw [hb2]; rfl
          have hNb : c / 256 ^ k ≤ 3200 := Nat.le_trans (Nat.div_le_self _ _) hcb
          generalize c / 256 ^ k = N at hnx hbt hNb ⊢
          obtain ⟨y, hy⟩ : ∃ y, y = UInt8.ofNat N := ⟨_, rfl⟩
          have e1 : (N : Int) % 256 = (y.toNat : Int) := by rw [hy, UInt8.toNat_ofNat']; simp
          have e2 : (y.toNat : Int) % 256 = (y.toNat : Int) := by have := y.toNat_lt; omega
          rw [← hy] at hbt
          have hh : Has (wr.alloc (.cells #[B8 y] 5)) wr.heap.size 5 (bs [y]) := Has.fresh wr 5 _
          have hcv := run_convert_bytes_back (P := Tryd.prog) (wr.alloc (.cells #[B8 y] 5)) 27 9 5 ⟨wr.heap.size, 0, none⟩ 1 [y] Tryd.underlying27 Tryd.underlying5 Tryd.underlying9 (fun j hj => by
            have hadd : (⟨wr.heap.size, 0, none⟩ : Addr).add j = ⟨wr.heap.size, j, none⟩ := by unfold Addr.add; split <;> simp_all
            rw [hadd, hh.byte j hj, List.getD_eq_getElem?_getD, List.getElem?_eq_getElem hj]; rfl)
          have t1 : decide ((k : Int) < 8) = true := by simp; omega
          have hcat : ¬ (9223372036854775807 < 1 + b2.size) := by omega
          have hcat2 : ¬ (9223372036854775807 < 1 + k) := by omega
          have HNX := Lib.hid hnx
          have HBT := Lib.hid hbt
          clear hnx hbt hy hb2
          simp only [List.length_singleton] at hcv
          go_wp2
          go_roundw
          case rel => exact ⟨k + 1, ⟨#[y]⟩ ++ b2, by omega, by rw [HNX.out]; go_num, rfl, by go_num, by rw [list_app, HBT.out]; rfl, hbr.alloc hbr.size _⟩
          case measure => simp [intOf]; omega
        · have hk2 : k = 8 := by omega
          subst hk2
          rw [show ((8 : Nat) : Int) = 8 from rfl]
          have hcat : ¬ (9223372036854775807 < b.size + b2.size) := by omega
          go_wp2
          go_ret
          refine ⟨?_, hbr⟩
          have hfin : b ++ b2 = filled s := by
            apply bytes_ext
            rw [list_app, HB.out, hb2, filled_list, HCC.out]
            unfold fillL fillTo
            rw [show fillLen s.size - 1 - 8 = j from by rw [HZ.out]; omega]
            simp
          rw [← hfin]
          rfl
end Go.Proofs.YtolipnjlbdbofaaDoor
