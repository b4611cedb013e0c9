/- ether.demand, rightType, Right, strings.Clone: walked. -/
import Derived.Test.YtkjkmnaiddjjnaaVA
import Derived.Lib.UnsafeStr
namespace Go.Proofs.Ytkjkmnaiddjjnaa
open Go.RowKit
/-- what demand ends with -/
def demanded (b : Bool) (n : Int) : Ending := if b then .returned (.tuple #[]) else thrown n
theorem demanded_yes {n : Int} : demanded true n = .returned (.tuple #[]) := rfl
theorem demanded_no {n : Int} : demanded false n = thrown n := rfl
theorem ret_bool {b c : Bool} (h : b = true ↔ c = true) : Ending.returned (.bool b) = .returned (.bool c) := by rw [Bool.eq_iff_iff.2 h]
theorem rightType_any (k : Int) (w : World) : Calls Try.prog 32 #[.int .i64 k] w fun e w' => e = .returned (.bool (rightT k)) ∧ w' = w := by
  unfold rightT
  go_enter Try.func32, Try.ntmps32
  by_cases h0 : k = 0
  · subst h0
    go_wp2
    go_ret
    exact ⟨rfl, rfl⟩
  · by_cases h1 : 1536 ≤ k
    · by_cases h2 : k ≤ 65535
      · go_wp2
        go_ret
        exact ⟨ret_bool (by simp; omega), rfl⟩
      · go_wp2
        go_ret
        exact ⟨ret_bool (by simp; omega), rfl⟩
    · go_wp2
      go_ret
      exact ⟨ret_bool (by simp; omega), rfl⟩
theorem right_any (x : E8) (hx : x.Six) (w : World) : Calls Try.prog 23 #[.agg x.c] w fun e w' => e = .returned (.bool x.right) ∧ Below w.heap.size w w' := by
  have i0 := Has.fresh w 46 x.c
  have b0 : Below w.heap.size w (w.alloc (.cells x.c 46)) := (Below.refl _ _).alloc (Nat.le_refl _) _
  have ck := i0.fk hx
  have cb := i0.fb hx
  have cv := i0.fv hx
  have cp := i0.fp hx
  have hr := fun W => rightType_any x.k W
  have HR := Lib.hid hr
  have HB := Lib.hid b0
  clear i0 b0 hr
  obtain ⟨R, hR⟩ : ∃ R, R = x.right := ⟨_, rfl⟩
  rw [← hR]
  unfold E8.right at hR
  have HC := Lib.hid hR
  clear hR
  have fin : ∀ c : Bool, (c = true ↔ (rightT x.k && decide (x.b.size ≤ 1500) && (if x.v = -1 then x.p == 0 else decide (0 ≤ x.v) && decide (x.v ≤ 4094) && decide (0 ≤ x.p) && decide (x.p ≤ 7))) = true) →
      Ending.returned (.bool c) = .returned (.bool R) := fun c h => by
    rw [HC.out]
    exact ret_bool h
  have HF := Lib.hid fin
  clear fin
  by_cases t0 : rightT x.k = true
  · by_cases t1 : x.b.size ≤ 1500
    · have t2 : (x.b.size : Int) ≤ 1500 := by omega
      by_cases t3 : x.v = -1
      · go_enter Try.func23, Try.ntmps23
        go_wp2_with (go_at_call 32; refine (HR.out _).mono ?_; rintro e w1 ⟨rfl, rfl⟩)
        go_ret
        exact ⟨HF.out _ (by simp [t0, t1, t3]), HB.out⟩
      · by_cases t4 : 0 ≤ x.v
        · by_cases t5 : x.v ≤ 4094
          · by_cases t6 : 0 ≤ x.p
            · go_enter Try.func23, Try.ntmps23
              go_wp2_with (go_at_call 32; refine (HR.out _).mono ?_; rintro e w1 ⟨rfl, rfl⟩)
              go_ret
              exact ⟨HF.out _ (by simp [t0, t1, t3, t4, t5, t6]), HB.out⟩
            · go_enter Try.func23, Try.ntmps23
              go_wp2_with (go_at_call 32; refine (HR.out _).mono ?_; rintro e w1 ⟨rfl, rfl⟩)
              go_ret
              exact ⟨HF.out _ (by simp [t3]; omega), HB.out⟩
          · go_enter Try.func23, Try.ntmps23
            go_wp2_with (go_at_call 32; refine (HR.out _).mono ?_; rintro e w1 ⟨rfl, rfl⟩)
            go_ret
            exact ⟨HF.out _ (by simp [t3]; omega), HB.out⟩
        · go_enter Try.func23, Try.ntmps23
          go_wp2_with (go_at_call 32; refine (HR.out _).mono ?_; rintro e w1 ⟨rfl, rfl⟩)
          go_ret
          exact ⟨HF.out _ (by simp [t3]; omega), HB.out⟩
    · have t2 : ¬ (x.b.size : Int) ≤ 1500 := by omega
      go_enter Try.func23, Try.ntmps23
      go_wp2_with (go_at_call 32; refine (HR.out _).mono ?_; rintro e w1 ⟨rfl, rfl⟩)
      go_ret
      exact ⟨HF.out _ (by simp [t1]), HB.out⟩
  · rw [Bool.not_eq_true] at t0
    go_enter Try.func23, Try.ntmps23
    go_wp2_with (go_at_call 32; refine (HR.out _).mono ?_; rintro e w1 ⟨rfl, rfl⟩)
    go_ret
    exact ⟨HF.out _ (by simp [t0]), HB.out⟩
end Go.Proofs.Ytkjkmnaiddjjnaa
