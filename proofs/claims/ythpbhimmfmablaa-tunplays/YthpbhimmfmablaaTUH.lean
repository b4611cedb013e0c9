/- The document's Eight, Print, Parse: walked. -/
import Derived.Test.YthpbhimmfmablaaTUE
import Derived.Test.YthpbhimmfmablaaWA
namespace Go.Proofs.Ythpbhimmfmablaa
open Go.RowKit
set_option maxRecDepth 20000 in
set_option maxHeartbeats 1000000 in
theorem refEight_any (n : Nat) (hn : n < 18446744073709551616) (w : World) :
    Calls Try.prog 28 #[.int .u64 (n : Int)] w fun e w' => e = .returned (.string ⟨(beTail n 8).toArray⟩) ∧ Below w.heap.size w w' := by
  have hlen := beTail_length n
  have hst : ∀ k, beTail n (k + 1) = UInt8.ofNat (n / 256 ^ k) :: beTail n k := fun k => rfl
  have hz0 : beTail n 0 = [] := rfl
  generalize beTail n = R at hlen hst hz0 ⊢
  have HS := Lib.hid hst
  have HL := Lib.hid hlen
  have HZ := Lib.hid hz0
  clear hlen hst hz0
  go_enter Try.func28, Try.ntmps28
  go_wp2
  go_loopw [0, 3, 4] (fun nv sv iv wr => ∃ k : Nat, k ≤ 8 ∧ nv = .int .u64 ((n / 256 ^ k : Nat) : Int) ∧ sv = .string ⟨(R k).toArray⟩ ∧ iv = .int .i64 (k : Int) ∧ Below w.heap.size w wr) (fun _ _ iv _ => 8 - (intOf iv).toNat)
  case atStart => exact ⟨0, by omega, by rw [Nat.pow_zero, Nat.div_one], by rw [HZ.out], rfl, Below.refl _ _⟩
  case round =>
    obtain ⟨k, hk, rfl, rfl, rfl, hb⟩ := hrel
    by_cases hlt : k < 8
    · have t1 : decide ((k : Int) < 8) = true := by simp; omega
      have hd : n / 256 ^ k / 256 = n / 256 ^ (k + 1) := by rw [Nat.div_div_eq_div_mul, Nat.pow_succ]
      have hq : n / 256 ^ k ≤ n := Nat.div_le_self _ _
      have hst := HS.out k
      have hlk := HL.out k
      obtain ⟨q, hqq⟩ : ∃ q, n / 256 ^ k = q := ⟨_, rfl⟩
      rw [hqq] at hd hq hst
      have HD := Lib.hid hd
      rw [hqq]
      generalize R k = t at hst hlk
      have e8 : ((q : Int) % 256) = ((UInt8.ofNat q).toNat : Int) := by rw [UInt8.toNat_ofNat']; omega
      have hcv : ∀ W : World, (convert 60 9 (.slice (some ⟨W.heap.size, 0, none⟩) 1 1)).run Try.prog (W.alloc (.cells #[.int .u8 ((q : Int) % 256)] 5)) = .ok (.string ⟨[UInt8.ofNat q].toArray⟩) (W.alloc (.cells #[.int .u8 ((q : Int) % 256)] 5)) := fun W => by rw [e8]; exact conv_one _ W
      clear e8
      have hcat : ¬ (9223372036854775807 < 1 + t.length) := by omega
      generalize UInt8.ofNat q = c at hcv hst
      have HST := Lib.hid hst
      clear hst hd hqq
      go_wp2
      refine ⟨⟨k + 1, by omega, ?_, ?_, by go_num, hb.alloc hb.size _⟩, by simp [intOf]; omega⟩
      · rw [← HD.out]; congr 1
      · rw [HST.out, cat_str1]
    · have hk2 : k = 8 := by omega
      subst hk2
      go_wp2
      go_ret
      exact ⟨rfl, hb⟩
end Go.Proofs.Ythpbhimmfmablaa
