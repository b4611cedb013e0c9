/- mac.Same: walked (the same as in ME, without the sums). -/
import Derived.Test.YtfhjokbbaoldiaaBU
namespace Go.Proofs.Ytfhjokbbaoldiaa
open Go.RowKit
theorem or8 (a b : UInt8) : bits .or .u8 (a.toNat : Int) (b.toNat : Int) = ((a ||| b).toNat : Int) := by
  rw [u8_or_nat _ _ a.toNat_lt b.toNat_lt, UInt8.toNat_or]
/-- what is unlike in the first k bytes -/
def dif (a b : List UInt8) : Nat → UInt8
  | 0 => 0
  | k + 1 => dif a b k ||| (a.getD k 0 ^^^ b.getD k 0)
theorem u8_or_zero (x y : UInt8) : (x ||| y = 0) ↔ (x = 0 ∧ y = 0) := by
  constructor
  · intro h
    have h2 := congrArg UInt8.toNat h
    rw [UInt8.toNat_or] at h2
    have h3 : x.toNat ||| y.toNat = 0 := h2
    rw [Nat.or_eq_zero_iff] at h3
    exact ⟨UInt8.toNat_inj.1 h3.1, UInt8.toNat_inj.1 h3.2⟩
  · rintro ⟨rfl, rfl⟩; rfl
theorem u8_xor_zero (x y : UInt8) : (x ^^^ y = 0) ↔ x = y := UInt8.xor_eq_zero_iff
theorem dif_zero (a b : List UInt8) (k : Nat) : dif a b k = 0 ↔ ∀ i, i < k → a.getD i 0 = b.getD i 0 := by
  induction k with
  | zero => exact ⟨fun _ i hi => by omega, fun _ => rfl⟩
  | succ k ih =>
    show dif a b k ||| _ = 0 ↔ _
    rw [u8_or_zero, ih, u8_xor_zero]
    constructor
    · rintro ⟨h1, h2⟩ i hi
      rcases Nat.lt_succ_iff_lt_or_eq.1 hi with h | rfl
      · exact h1 i h
      · exact h2
    · intro h
      exact ⟨fun i hi => h i (by omega), h k (by omega)⟩
theorem dif_same (a b : ByteArray) (h : a.size = b.size) : (dif a.data.toList b.data.toList a.size = 0) ↔ a = b := by
  rw [dif_zero]
  constructor
  · intro h2
    apply ByteArray.ext
    apply Array.toList_inj.1
    apply List.ext_getElem (by rw [len_list, len_list, h])
    intro i h3 h4
    have := h2 i (by rw [len_list] at h3; exact h3)
    simpa only [List.getD_eq_getElem?_getD, List.getElem?_eq_getElem h3, List.getElem?_eq_getElem h4, Option.getD_some] using this
  · rintro rfl i _; rfl
set_option maxRecDepth 20000 in
set_option maxHeartbeats 400000 in
theorem same_any (a b : ByteArray) (w : World) (ha : a.size ≤ 9223372036854775807) :
    Calls Try.prog 21 #[.string a, .string b] w fun e w' => e = .returned (.bool (decide (a = b))) ∧ Below w.heap.size w w' := by
  by_cases hsz : a.size = b.size
  · have t1 : ((a.size : Int) != (b.size : Int)) = false := by simp; omega
    have hD := dif_same a b hsz
    have HD := Lib.hid hD
    clear hD
    go_enter Try.func21, Try.ntmps21
    go_wp2
    go_loopw [5, 14] (fun u i wr => ∃ k : Nat, k ≤ a.size ∧ u = B8 (dif a.data.toList b.data.toList k) ∧ i = .int .i64 k ∧ Below w.heap.size w wr) (fun _ i _ => a.size - (intOf i).toNat)
    case atStart => exact ⟨0, by omega, rfl, rfl, Below.refl _ _⟩
    case round =>
      obtain ⟨k, hk, rfl, rfl, hbr⟩ := hrel
      by_cases hlt : k < a.size
      · have t2 : decide ((k : Int) < (a.size : Int)) = true := by simp; omega
        have h1 : (k : Int) < (a.size : Int) := by omega
        have h2 : (k : Int) < (b.size : Int) := by omega
        go_wp2
        go_quiet (fail)
        rw [xor8, or8, bAt_eq a k hlt, bAt_eq b k (by omega)]
        have hn : dif a.data.toList b.data.toList k ||| (bAt a k ^^^ bAt b k) = dif a.data.toList b.data.toList (k + 1) := rfl
        rw [hn]
        go_wp2
        go_roundw
        case rel => exact ⟨k + 1, by omega, rfl, by go_num, below_drewN hbr nq⟩
        case measure => simp [intOf]; omega
      · have hk2 : k = a.size := by omega
        subst hk2
        have hD := HD.out
        by_cases he : dif a.data.toList b.data.toList a.size = 0
        · rw [he]
          have hab := hD.1 he
          have HAB := Lib.hid hab
          clear hab hD
          go_wp2
          go_ret
          exact ⟨by rw [decide_eq_true HAB.out]; rfl, hbr⟩
        · have hab : decide (a = b) = false := decide_eq_false (fun h => he (hD.2 h))
          have t3 : (((dif a.data.toList b.data.toList a.size).toNat : Int) == 0) = false := by
            rw [beq_eq_false_iff_ne]
            intro h
            exact he (UInt8.toNat_inj.1 (Int.ofNat_inj.1 h))
          generalize dif a.data.toList b.data.toList a.size = d at t3
          have HAB := Lib.hid hab
          clear hab hD he
          go_wp2
          go_ret
          exact ⟨by rw [HAB.out]; rfl, hbr⟩
  · have t1 : ((a.size : Int) != (b.size : Int)) = true := by simp; omega
    have hab : decide (a = b) = false := decide_eq_false (fun h => hsz (by rw [h]))
    have HAB := Lib.hid hab
    clear hab
    go_enter Try.func21, Try.ntmps21
    go_wp2
    go_ret
    exact ⟨by rw [HAB.out]; rfl, Below.refl _ _⟩
end Go.Proofs.Ytfhjokbbaoldiaa
