/- The walk of law ShaWhole. -/
import Derived.Test.YtpkmhdnpnbkhiaaDoorU
import Derived.Test.YtpkmhdnpnbkhiaaDoorK
namespace Go.Proofs.YtpkmhdnpnbkhiaaDoor
open Go.RowKit
theorem w64 (a : Nat) (h : a ≤ 1000000000) : wrap64 (a : Int) = (a : Int) := by
  unfold wrap64; omega
theorem whole_sq : ∀ x : Fin 32, rootW (x.val * x.val) 2 = 0 := by decide +kernel
theorem whole_cu : ∀ y : Fin 11, rootW (y.val * y.val * y.val) 3 = 0 := by decide +kernel
theorem whole_next : ∀ x : Fin 32, x.val < 2 ∨ 30 < x.val ∨ 0 < (rootW (x.val * x.val + 1) 2).toNat := by decide +kernel
set_option maxHeartbeats 400000 in
theorem whole_any (n : Nat) (hn : n < 256) (w : World) (hK : HasK w) :
    Calls Tryd.prog 8 #[.int .u8 n] w fun e w' => e = .returned (.bool true) ∧ Below w.heap.size w w' := by
  obtain ⟨x, hx⟩ : ∃ x, x = n % 32 := ⟨_, rfl⟩
  obtain ⟨y, hy⟩ : ∃ y, y = n % 11 := ⟨_, rfl⟩
  have ex : (n : Int) % 32 = (x : Int) := by omega
  have ey : (n : Int) % 11 = (y : Int) := by omega
  have lx : x < 32 := by omega
  have ly : y < 11 := by omega
  clear hx hy
  have E : HasK w ∧ Below w.heap.size w w := ⟨hK, Below.refl _ _⟩
  have hX : x * x ≤ 961 := Nat.mul_le_mul (by omega : x ≤ 31) (by omega : x ≤ 31)
  have hY : y * y ≤ 100 := Nat.mul_le_mul (by omega : y ≤ 10) (by omega : y ≤ 10)
  have hYY : y * y * y ≤ 1000 := Nat.mul_le_mul hY (by omega : y ≤ 10)
  have w1 : wrap64 ((x : Int) * (x : Int)) = ((x * x : Nat) : Int) := by rw [← Int.natCast_mul]; exact w64 _ (by omega)
  have w2 : wrap64 ((y : Int) * (y : Int)) = ((y * y : Nat) : Int) := by rw [← Int.natCast_mul]; exact w64 _ (by omega)
  have w3 : wrap64 (((y * y : Nat) : Int) * (y : Int)) = ((y * y * y : Nat) : Int) := by rw [← Int.natCast_mul]; exact w64 _ (by omega)
  have c1 := root2_any (x * x) (by omega)
  have c2 := root3_any (y * y * y) (by omega)
  have c3 := root2_any (x * x + 1) (by omega)
  rw [whole_sq ⟨x, lx⟩] at c1
  rw [whole_cu ⟨y, ly⟩] at c2
  have hn3 := whole_next ⟨x, lx⟩
  simp only at hn3
  generalize rootW (x * x + 1) 2 = v at c3 hn3
  generalize y * y * y = Y3 at w3 c2 hYY
  generalize y * y = Y2 at w2 w3 hY
  generalize x * x = X at w1 c1 c3 hX
  have z0 : W32 0 = .int .u32 0 := rfl
  rw [z0] at c1 c2
  have C1 := Lib.hid c1
  have C2 := Lib.hid c2
  have C3 := Lib.hid c3
  have HN3 := Lib.hid hn3
  clear c1 c2 c3 hn3 z0
  by_cases k1 : x < 2
  · have d1 : decide ((x : Int) < 2) = true := by simp; omega
    go_enter Tryd.func8, Tryd.ntmps8
    go_wp2_with fail
    have hk := E.1
    refine (awake_any _ hk).mono ?_
    rintro e wq ⟨rfl, hbq⟩
    replace E : HasK wq ∧ Below w.heap.size w wq := ⟨E.1.below E.1.lt hbq, E.2.trans (hbq.mono E.2.size)⟩
    go_wp2_with fail
    refine (C1.out _).mono ?_
    rintro e wq ⟨rfl, hbq⟩
    replace E : HasK wq ∧ Below w.heap.size w wq := ⟨E.1.below E.1.lt hbq, E.2.trans (hbq.mono E.2.size)⟩
    go_wp2_with fail
    refine (C2.out _).mono ?_
    rintro e wq ⟨rfl, hbq⟩
    replace E : HasK wq ∧ Below w.heap.size w wq := ⟨E.1.below E.1.lt hbq, E.2.trans (hbq.mono E.2.size)⟩
    go_wp2
    go_ret
    exact ⟨rfl, E.2⟩
  by_cases k2 : 30 < x
  · have d1 : decide ((x : Int) < 2) = false := by simp; omega
    have d2 : decide (30 < (x : Int)) = true := by simp; omega
    go_enter Tryd.func8, Tryd.ntmps8
    go_wp2_with fail
    have hk := E.1
    refine (awake_any _ hk).mono ?_
    rintro e wq ⟨rfl, hbq⟩
    replace E : HasK wq ∧ Below w.heap.size w wq := ⟨E.1.below E.1.lt hbq, E.2.trans (hbq.mono E.2.size)⟩
    go_wp2_with fail
    refine (C1.out _).mono ?_
    rintro e wq ⟨rfl, hbq⟩
    replace E : HasK wq ∧ Below w.heap.size w wq := ⟨E.1.below E.1.lt hbq, E.2.trans (hbq.mono E.2.size)⟩
    go_wp2_with fail
    refine (C2.out _).mono ?_
    rintro e wq ⟨rfl, hbq⟩
    replace E : HasK wq ∧ Below w.heap.size w wq := ⟨E.1.below E.1.lt hbq, E.2.trans (hbq.mono E.2.size)⟩
    go_wp2
    go_ret
    exact ⟨rfl, E.2⟩
  · have d1 : decide ((x : Int) < 2) = false := by simp; omega
    have d2 : decide (30 < (x : Int)) = false := by simp; omega
    have hv : 0 < v.toNat := by
      rcases HN3.out with h | h | h
      · omega
      · omega
      · exact h
    have dv : decide (0 < (v.toNat : Int)) = true := by simp; omega
    go_enter Tryd.func8, Tryd.ntmps8
    go_wp2_with fail
    have hk := E.1
    refine (awake_any _ hk).mono ?_
    rintro e wq ⟨rfl, hbq⟩
    replace E : HasK wq ∧ Below w.heap.size w wq := ⟨E.1.below E.1.lt hbq, E.2.trans (hbq.mono E.2.size)⟩
    go_wp2_with fail
    refine (C1.out _).mono ?_
    rintro e wq ⟨rfl, hbq⟩
    replace E : HasK wq ∧ Below w.heap.size w wq := ⟨E.1.below E.1.lt hbq, E.2.trans (hbq.mono E.2.size)⟩
    go_wp2_with fail
    refine (C2.out _).mono ?_
    rintro e wq ⟨rfl, hbq⟩
    replace E : HasK wq ∧ Below w.heap.size w wq := ⟨E.1.below E.1.lt hbq, E.2.trans (hbq.mono E.2.size)⟩
    go_wp2_with fail
    refine (C3.out _).mono ?_
    rintro e wq ⟨rfl, hbq⟩
    replace E : HasK wq ∧ Below w.heap.size w wq := ⟨E.1.below E.1.lt hbq, E.2.trans (hbq.mono E.2.size)⟩
    go_wp2
    go_ret
    exact ⟨rfl, E.2⟩
end Go.Proofs.YtpkmhdnpnbkhiaaDoor
