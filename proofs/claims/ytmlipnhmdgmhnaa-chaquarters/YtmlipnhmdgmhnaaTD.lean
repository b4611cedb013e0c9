/- The walk of law ChaQuarters. -/
import Derived.Test.YtmlipnhmdgmhnaaTC
import Derived.OpenShut
namespace Go.Proofs.Ytmlipnhmdgmhnaa
open Go.RowKit
set_option maxHeartbeats 1000000 in
theorem quartersLaw_w (a b c d : UInt32) (w : World) :
    Calls Try.prog 5 #[W32 a, W32 b, W32 c, W32 d] w fun e w' => e = .returned (.bool true) ∧ Below w.heap.size w w' := by
  have hc := quarter_any a b c d w
  unfold qr at hc
  obtain ⟨a1, b1, c1, d1, h1, hd1, hc1, hb1, ha1⟩ : ∃ a1 b1 c1 d1, qh1 ⟨a, b, c, d⟩ = ⟨a1, b1, c1, d1⟩ ∧ rotr d1 16 ^^^ a1 = d ∧ c1 - d1 = c ∧ rotr b1 12 ^^^ c1 = b ∧ a1 - b = a := by
    refine ⟨_, _, _, _, rfl, ?_, ?_, ?_, ?_⟩
    · rw [turn_back _ _ (by omega), xor_back]
    · rw [add_back]
    · rw [turn_back _ _ (by omega), xor_back]
    · rw [add_back]
  rw [h1] at hc
  obtain ⟨a2, b2, c2, d2, h2, hd2, hc2, hb2, ha2⟩ : ∃ a2 b2 c2 d2, qh2 ⟨a1, b1, c1, d1⟩ = ⟨a2, b2, c2, d2⟩ ∧ rotr d2 8 ^^^ a2 = d1 ∧ c2 - d2 = c1 ∧ rotr b2 7 ^^^ c2 = b1 ∧ a2 - b1 = a1 := by
    refine ⟨_, _, _, _, rfl, ?_, ?_, ?_, ?_⟩
    · rw [turn_back _ _ (by omega), xor_back]
    · rw [add_back]
    · rw [turn_back _ _ (by omega), xor_back]
    · rw [add_back]
  rw [h2] at hc
  clear h1 h2
  have HC := Lib.hid hc
  have K1 := Lib.hid hd1
  have K2 := Lib.hid hc1
  have K3 := Lib.hid hb1
  have K4 := Lib.hid ha1
  have K5 := Lib.hid hd2
  have K6 := Lib.hid hc2
  have K7 := Lib.hid hb2
  have K8 := Lib.hid ha2
  clear hc hd1 hc1 hb1 ha1 hd2 hc2 hb2 ha2
  have E : Below w.heap.size w w := Below.refl _ _
  go_enter Try.func5, Try.ntmps5
  go_wp2_with fail
  refine HC.out.mono ?_
  rintro e w' ⟨rfl, rfl⟩
  go_wp2_with fail
  refine (turn_any _ _ (by omega) (by omega) _).mono ?_
  rintro e w1 ⟨rfl, hbq⟩
  replace E := E.trans (hbq.mono E.size)
  clear hbq
  simp only [Int.reduceToNat]
  go_wp2_with fail
  simp only [xor32, sub32]
  rw [K7.out, K6.out]
  refine (turn_any _ _ (by omega) (by omega) _).mono ?_
  rintro e w2 ⟨rfl, hbq⟩
  replace E := E.trans (hbq.mono E.size)
  clear hbq
  simp only [Int.reduceToNat]
  go_wp2_with fail
  simp only [xor32, sub32]
  rw [K5.out, K8.out]
  refine (turn_any _ _ (by omega) (by omega) _).mono ?_
  rintro e w3 ⟨rfl, hbq⟩
  replace E := E.trans (hbq.mono E.size)
  clear hbq
  simp only [Int.reduceToNat]
  go_wp2_with fail
  simp only [xor32, sub32]
  rw [K3.out, K2.out]
  refine (turn_any _ _ (by omega) (by omega) _).mono ?_
  rintro e w4 ⟨rfl, hbq⟩
  replace E := E.trans (hbq.mono E.size)
  clear hbq
  simp only [Int.reduceToNat]
  go_wp2_with fail
  simp only [xor32, sub32]
  rw [K1.out, K4.out]
  refine (awake3_any _).mono ?_
  rintro e w5 ⟨rfl, rfl⟩
  go_wp2
  go_ret
  exact ⟨rfl, E⟩
theorem word_int (x : Int) (hx : (Lit.int .u32 x).wf = true) : ∃ n : UInt32, x = (n.toNat : Int) := by
  have hb := bounds_u32 hx
  exact ⟨UInt32.ofNat x.toNat, by rw [UInt32.toNat_ofNat', Nat.mod_eq_of_lt (by omega)]; omega⟩
theorem quartersLaw_any (a b c d : Int) (ha : (Lit.int .u32 a).wf = true) (hb : (Lit.int .u32 b).wf = true) (hc : (Lit.int .u32 c).wf = true) (hd : (Lit.int .u32 d).wf = true) (w : World) :
    Calls Try.prog 5 #[.int .u32 a, .int .u32 b, .int .u32 c, .int .u32 d] w fun e w' => e = .returned (.bool true) ∧ Below w.heap.size w w' := by
  obtain ⟨a, rfl⟩ := word_int a ha
  obtain ⟨b, rfl⟩ := word_int b hb
  obtain ⟨c, rfl⟩ := word_int c hc
  obtain ⟨d, rfl⟩ := word_int d hd
  exact quartersLaw_w a b c d w
end Go.Proofs.Ytmlipnhmdgmhnaa
