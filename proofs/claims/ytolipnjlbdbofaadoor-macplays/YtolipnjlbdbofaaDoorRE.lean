/- causeyref01.Root: walked. -/
import Derived.Test.YtolipnjlbdbofaaDoorRD
import Derived.Test.YtolipnjlbdbofaaDoorUM
namespace Go.Proofs.YtolipnjlbdbofaaDoor
open Go.RowKit
/-- the bits at hand, told from the place of the next one -/
theorem rt_step (P : Nat → Bool) (hP : P (2 ^ 37) = false) (b : Nat) (hb : b ≤ 37) :
    rt P (37 - b) = if P (2 ^ b + rt P (37 - (b + 1))) then 2 ^ b + rt P (37 - (b + 1)) else rt P (37 - (b + 1)) := by
  rcases Nat.lt_or_ge b 37 with h | h
  · obtain ⟨k, hk⟩ : ∃ k, k = 36 - b := ⟨_, rfl⟩
    have e1 : 37 - b = k + 1 := by omega
    have e2 : 37 - (b + 1) = k := by omega
    have e3 : b = 36 - k := by omega
    rw [e1, e2]
    show (if P (rt P k + 2 ^ (36 - k)) then rt P k + 2 ^ (36 - k) else rt P k) = _
    rw [← e3, Nat.add_comm (2 ^ b)]
  · have h2 : b = 37 := by omega
    subst h2
    show rt P 0 = if P (2 ^ 37 + rt P 0) then 2 ^ 37 + rt P 0 else rt P 0
    show 0 = if P (2 ^ 37 + 0) then 2 ^ 37 + 0 else 0
    rw [Nat.add_zero, hP]; rfl
theorem rt_small (P : Nat → Bool) (b : Nat) : rt P (37 - (b + 1)) < 137438953472 := by
  have h := rt_lt P (37 - (b + 1)) (by omega)
  exact Nat.lt_of_le_of_lt (Nat.le_add_right _ _) h
theorem top_no (n p : Nat) (hn : n ≤ 1000) (hp : p = 2 ∨ p = 3) : decide ((2 ^ 37) ^ p ≤ n * 256 ^ (4 * p)) = false := by
  rcases hp with rfl | rfl
  · simp; omega
  · simp; omega
set_option maxHeartbeats 400000 in
theorem refRoot_any (n p : Nat) (hn : n ≤ 1000) (hp : p = 2 ∨ p = 3) (w : World) :
    Calls Tryd.prog 27 #[.int .i64 n, .int .i64 p] w fun e w' => e = .returned (W32 (rootW n p)) ∧ Below w.heap.size w w' := by
  obtain ⟨P, hP⟩ : ∃ P : Nat → Bool, P = fun y => decide (y ^ p ≤ n * 256 ^ (4 * p)) := ⟨_, rfl⟩
  have htop : P (2 ^ 37) = false := by rw [hP]; exact top_no n p hn hp
  have hPR : rootW n p = UInt32.ofNat (rt P 37) := by
    unfold rootW
    have : (fun y => decide (y ^ p ≤ n * 2 ^ (32 * p))) = P := by
      rw [hP]; funext y
      rw [show (2 : Nat) ^ (32 * p) = 256 ^ (4 * p) from by rw [show 32 * p = 8 * (4 * p) from by omega, Nat.pow_mul]]
    rw [this]
  have HP := Lib.hid hP
  have HPR := Lib.hid hPR
  have HTOP := Lib.hid htop
  have HPP := Lib.hid hp
  clear hP hPR htop hp
  go_enter Tryd.func27, Tryd.ntmps27
  go_wp2
  go_loopw [5, 6] (fun x b wr => ∃ c : Nat, c ≤ 38 ∧ x = .int .i64 (rt P (37 - c) : Int) ∧ b = .int .i64 ((c : Int) - 1) ∧ Below w.heap.size w wr) (fun _ b _ => (intOf b + 1).toNat)
  case atStart => exact ⟨38, by omega, rfl, rfl, Below.refl _ _⟩
  case round =>
    obtain ⟨c, hc, rfl, rfl, hbr⟩ := hrel
    by_cases hc0 : 0 < c
    · obtain ⟨b, rfl⟩ : ∃ b, c = b + 1 := ⟨c - 1, by omega⟩
      have hi1 : ((b + 1 : Nat) : Int) - 1 = (b : Int) := by omega
      rw [hi1]
      have hst := rt_step P HTOP.out b (by omega)
      have hsm := rt_small P b
      generalize rt P (37 - (b + 1)) = x at hst hsm ⊢
      have HST := Lib.hid hst
      clear hst hi1
      have t3 : decide (0 ≤ (b : Int)) = true := by simp
      have hb37 : b ≤ 37 := by omega
      clear hc hc0
      go_wp2
      go_loop [7, 8] (fun y i => ∃ k : Nat, k ≤ b ∧ y = .int .i64 ((2 ^ k : Nat) : Int) ∧ i = .int .i64 (k : Int)) (fun _ i => b - (intOf i).toNat)
      case atStart => exact ⟨0, by omega, rfl, rfl⟩
      case round =>
        obtain ⟨k, hk, rfl, rfl⟩ := hrel
        have hpw : 2 ^ k ≤ 2 ^ 37 := Nat.pow_le_pow_right (by omega) (by omega)
        have hpw2 : 2 ^ k ≤ 137438953472 := hpw
        clear hpw
        by_cases hkb : k < b
        · have t1 : decide ((k : Int) < (b : Int)) = true := by simp; omega
          have hs : 2 ^ (k + 1) = 2 * 2 ^ k := by rw [Nat.pow_succ, Nat.mul_comm]
          generalize 2 ^ k = y at hpw2 hs ⊢
          have HS := Lib.hid hs
          clear hs
          go_wp2
          go_round
          case rel => exact ⟨k + 1, by omega, by rw [HS.out]; go_num, by go_num⟩
          case measure => simp [intOf]; omega
        · have hkb2 : k = b := by omega
          subst hkb2
          have t1 : decide ((k : Int) < (k : Int)) = false := by simp
          generalize 2 ^ k = y at hpw2 HST ⊢
          have hfit := fits_any (y + x) n p (by omega) hn HPP.out wr
          rw [show decide ((y + x) ^ p ≤ n * 256 ^ (4 * p)) = P (y + x) from by rw [HP.out]] at hfit
          have hyx : ((y + x : Nat) : Int) = (y : Int) + (x : Int) := by omega
          rw [hyx] at hfit
          cases hq : P (y + x)
          · rw [hq] at hfit
            have HF := Lib.hid hfit
            have HQ := Lib.hid (show rt P (37 - k) = x from by rw [HST.out, hq]; rfl)
            clear hfit hq hyx
            go_wp2_with (go_at_call 33; refine HF.out.mono ?_; rintro e w' ⟨rfl, hb2⟩)
            go_roundw
            case rel => exact ⟨k, by omega, by rw [HQ.out], rfl, hbr.trans (hb2.mono hbr.size)⟩
            case measure => simp [intOf]
          · rw [hq] at hfit
            have HF := Lib.hid hfit
            have HQ := Lib.hid (show rt P (37 - k) = y + x from by rw [HST.out, hq]; rfl)
            clear hfit hq hyx
            go_wp2_with (go_at_call 33; refine HF.out.mono ?_; rintro e w' ⟨rfl, hb2⟩)
            go_roundw
            case rel => exact ⟨k, by omega, by rw [HQ.out]; go_num, rfl, hbr.trans (hb2.mono hbr.size)⟩
            case measure => simp [intOf]
    · have hc1 : c = 0 := by omega
      subst hc1
      have t3 : decide (0 ≤ ((0 : Nat) : Int) - 1) = false := by decide
      generalize hx : rt P (37 - 0) = x
      have HX := Lib.hid hx
      clear hx
      go_wp2
      go_ret
      refine ⟨ret_int ?_, hbr⟩
      rw [HPR.out, show rt P 37 = x from HX.out]
      rw [← u32_of]
theorem refRoot2 (n : Nat) (hn : n ≤ 1000) (w : World) : Calls Tryd.prog 27 #[.int .i64 n, .int .i64 2] w fun e w' => e = .returned (W32 (rootW n 2)) ∧ Below w.heap.size w w' := refRoot_any n 2 hn (Or.inl rfl) w
theorem refRoot3 (n : Nat) (hn : n ≤ 1000) (w : World) : Calls Tryd.prog 27 #[.int .i64 n, .int .i64 3] w fun e w' => e = .returned (W32 (rootW n 3)) ∧ Below w.heap.size w w' := refRoot_any n 3 hn (Or.inr rfl) w
end Go.Proofs.YtolipnjlbdbofaaDoor
