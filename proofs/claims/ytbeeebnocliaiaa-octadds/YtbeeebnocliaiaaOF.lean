/- The law OctSums: walked. -/
import Derived.Test.YtbeeebnocliaiaaOB
import Derived.Test.YtbeeebnocliaiaaOC
import Derived.Test.YtbeeebnocliaiaaOE
namespace Go.Proofs.Ytbeeebnocliaiaa
open Go.RowKit
theorem numL_two (n : Nat) (h : n ≤ 65535) : numL (n : Int) 2 = two n := by
  unfold numL
  rw [if_pos ⟨by omega, by show (n : Int) < 65536; omega⟩, Int.toNat_natCast]
  show [UInt8.ofNat (n / 256 ^ 1), UInt8.ofNat (n / 256 ^ 0)] = two n
  rw [Nat.pow_one, Nat.pow_zero, Nat.div_one]
  rfl
theorem two2_any (n : Nat) (h : n ≤ 65535) (w : World) :
    Calls Try.prog 7 #[.int .i64 (n : Int)] w fun e w' => e = .returned (S9 (two n)) ∧ Below w.heap.size w w' := by
  have hc := two_any n (by omega) (by omega) w
  rw [numL_two n h] at hc
  exact hc
/-- a text with its sum behind it has the sum 0 -/
theorem sums_tail (s : ByteArray) (he : s.size % 2 = 0) : sum16 (s ++ ⟨(two (sum16 s.data.toList)).toArray⟩).data.toList = 0 := by
  rw [ByteArray.data_append, Array.toList_append]
  exact sum16_own s.data.toList he
set_option maxRecDepth 20000 in
set_option maxHeartbeats 1000000 in
theorem sumsLaw_any (s : ByteArray) (w : World) :
    Calls Try.prog 3 #[.string s] w fun e w' => e = .returned (.bool true) ∧ Below w.heap.size w w' := by
  by_cases hsz : s.size ≤ 1000
  · have t0 : decide ((1000 : Int) < (s.size : Int)) = false := by simp; omega
    have hm := tmod2 s.size
    rcases Nat.mod_two_eq_zero_or_one s.size with hp | hp
    · rw [hp] at hm
      have hle := sum16_le s.data.toList
      have hS := fun W => sum16_any s (by omega) W
      have hT := fun W => two2_any (sum16 s.data.toList) hle W
      have hU := fun W => sum16_any (s ++ ⟨(two (sum16 s.data.toList)).toArray⟩) (by rw [ByteArray.size_append]; show s.size + 2 ≤ _; omega) W
      rw [sums_tail s hp] at hU
      generalize sum16 s.data.toList = n at hle hS hT hU
      have HS := Lib.hid hS
      have HT := Lib.hid hT
      have HU := Lib.hid hU
      have hn0 : ¬ ((n : Int) < 0) := by omega
      have hcat : ¬ (9223372036854775807 < s.size + 2) := by omega
      clear hS hT hU hp
      go_enter Try.func3, Try.ntmps3
      go_wp2_with (first | (go_at_call 5; refine (awake_any _).mono ?_; rintro e w1 ⟨rfl, hb1⟩; refine Hid.out ?_) | fail)
      refine Lib.hid ?_
      go_wp2_with (first | (go_at_call 6; refine (HS.out _).mono ?_; rintro e w2 ⟨rfl, rfl⟩; refine Hid.out ?_) | fail)
      refine Lib.hid ?_
      go_wp2_with (first | (go_at_call 7; refine (HT.out _).mono ?_; rintro e w3 ⟨rfl, hb3⟩; refine Hid.out ?_) | fail)
      refine Lib.hid ?_
      go_wp2_with (first | (go_at_call 6; refine (HU.out _).mono ?_; rintro e w4 ⟨rfl, rfl⟩; refine Hid.out ?_) | fail)
      refine Lib.hid ?_
      go_wp2
      go_ret
      exact ⟨rfl, hb1.trans (hb3.mono hb1.size)⟩
    · rw [hp] at hm
      have hs2 : (s ++ (⟨#[0]⟩ : ByteArray)).size = s.size + 1 := ByteArray.size_append
      have hle := sum16_le (s ++ ⟨#[0]⟩).data.toList
      have hS := fun W => sum16_any (s ++ ⟨#[0]⟩) (by rw [hs2]; omega) W
      have hT := fun W => two2_any (sum16 (s ++ ⟨#[0]⟩).data.toList) hle W
      have hU := fun W => sum16_any ((s ++ ⟨#[0]⟩) ++ ⟨(two (sum16 (s ++ ⟨#[0]⟩).data.toList)).toArray⟩) (by rw [ByteArray.size_append, hs2]; show s.size + 1 + 2 ≤ _; omega) W
      rw [sums_tail (s ++ ⟨#[0]⟩) (by rw [hs2]; omega)] at hU
      generalize sum16 (s ++ ⟨#[0]⟩).data.toList = n at hle hS hT hU
      have HS := Lib.hid hS
      have HT := Lib.hid hT
      have HU := Lib.hid hU
      have hn0 : ¬ ((n : Int) < 0) := by omega
      have hcat0 : ¬ (9223372036854775807 < s.size + 1) := by omega
      have hcat : ¬ (9223372036854775807 < s.size + 1 + 2) := by omega
      clear hS hT hU hp
      go_enter Try.func3, Try.ntmps3
      go_wp2_with (first | (go_at_call 5; refine (awake_any _).mono ?_; rintro e w1 ⟨rfl, hb1⟩; refine Hid.out ?_) | fail)
      refine Lib.hid ?_
      go_wp2_with (first | (go_at_call 6; refine (HS.out _).mono ?_; rintro e w2 ⟨rfl, rfl⟩; refine Hid.out ?_) | fail)
      refine Lib.hid ?_
      go_wp2_with (first | (go_at_call 7; refine (HT.out _).mono ?_; rintro e w3 ⟨rfl, hb3⟩; refine Hid.out ?_) | fail)
      refine Lib.hid ?_
      go_wp2_with (first | (go_at_call 6; refine (HU.out _).mono ?_; rintro e w4 ⟨rfl, rfl⟩; refine Hid.out ?_) | fail)
      refine Lib.hid ?_
      go_wp2
      go_ret
      exact ⟨rfl, hb1.trans (hb3.mono hb1.size)⟩
  · have t0 : decide ((1000 : Int) < (s.size : Int)) = true := by simp; omega
    go_enter Try.func3, Try.ntmps3
    go_wp2_with (first | (go_at_call 5; refine (awake_any _).mono ?_; rintro e w1 ⟨rfl, hb1⟩; refine Hid.out ?_) | fail)
    refine Lib.hid ?_
    go_wp2_with (first | (go_at_call 5; refine (awake_any _).mono ?_; rintro e w2 ⟨rfl, hb2⟩; refine Hid.out ?_) | fail)
    refine Lib.hid ?_
    go_wp2
    go_ret
    exact ⟨rfl, hb1.trans (hb2.mono hb1.size)⟩
end Go.Proofs.Ytbeeebnocliaiaa
