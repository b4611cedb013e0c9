/- The limit of a cube root: walked. -/
import Derived.Test.YtpkmhdnpnbkhiaaDoorR
import Derived.Test.YtpkmhdnpnbkhiaaDoorC
import Derived.Deep.RegionWith
namespace Go.Proofs.YtpkmhdnpnbkhiaaDoor
open Go.RowKit
theorem cube_hi (x : Nat) : x * x / 18446744073709551616 * x + x * x % 18446744073709551616 * x / 18446744073709551616 = x * x * x / 18446744073709551616 := by
  have e : x * x = 18446744073709551616 * (x * x / 18446744073709551616) + x * x % 18446744073709551616 := (Nat.div_add_mod _ _).symm
  generalize x * x / 18446744073709551616 = h at *
  generalize x * x % 18446744073709551616 = l at *
  rw [e, Nat.add_mul, Nat.mul_assoc, Nat.mul_add_div (by omega)]
theorem cube_lo (x : Nat) : x * x % 18446744073709551616 * x % 18446744073709551616 = x * x * x % 18446744073709551616 := by
  rw [Nat.mul_mod (x * x) x, Nat.mul_mod (x * x % _) x, Nat.mod_mod]
theorem cube_small (x : Nat) (hx : x < 137438953472) : x * x / 18446744073709551616 * x < 18446744073709551616 ∧ x * x * x / 18446744073709551616 < 18446744073709551616 := by
  have h1 : x * x ≤ 137438953472 * 137438953472 := Nat.mul_le_mul (by omega) (by omega)
  have h2 : x * x * x ≤ 137438953472 * 137438953472 * 137438953472 := Nat.mul_le_mul h1 (by omega)
  have h3 : x * x / 18446744073709551616 ≤ 1024 := by omega
  have h4 : x * x / 18446744073709551616 * x ≤ 1024 * 137438953472 := Nat.mul_le_mul h3 (by omega)
  exact ⟨by omega, by omega⟩
set_option maxHeartbeats 400000 in
theorem within3 (x L : Nat) (hx : x < 137438953472) (a b : Addr) (w : World) (hp : w.cell? a = some (.int .i64 3)) (hL : w.cell? b = some (.int .u64 L)) :
    Calls Tryd.prog 32 #[.int .u64 x, .pointer (some a), .pointer (some b)] w fun e w' => e = .returned (.bool (inLimit (x * x * x) L)) ∧ w = w' := by
  have hm1 := mul64_any x x (by omega) (by omega)
  have hm2 := mul64_any (x * x % 18446744073709551616) x (Nat.mod_lt _ (by omega)) (by omega)
  have k1 := cube_hi x
  have k2 := cube_lo x
  obtain ⟨k3, k4⟩ := cube_small x hx
  rw [k2] at hm2
  have f1 := inLimit_lt (x * x * x) L
  have f2 := inLimit_eq (x * x * x) L
  have f3 := inLimit_ne (x * x * x) L
  have f4 := inLimit_gt (x * x * x) L
  clear k2
  generalize inLimit (x * x * x) L = r at f1 f2 f3 f4 ⊢
  generalize x * x * x / 18446744073709551616 = H at k1 k4 f1 f2 f3 f4
  generalize x * x * x % 18446744073709551616 = D at hm2 f2 f3
  generalize x * x % 18446744073709551616 * x / 18446744073709551616 = c at k1 hm2
  generalize x * x % 18446744073709551616 = l at hm1 hm2
  generalize x * x / 18446744073709551616 = h at k1 k3 hm1
  have w1 : IntKind.u64.wrap ((h : Int) * (x : Int)) = ((h * x : Nat) : Int) := by rw [mulN, wrapN _ k3]
  have w2 : IntKind.u64.wrap (((h * x : Nat) : Int) + (c : Int)) = (H : Int) := by rw [addN, k1, wrapN _ k4]
  generalize h * x = m at w1 w2 k1 k3
  have HM1 := Lib.hid hm1
  have HM2 := Lib.hid hm2
  have HK1 := Lib.hid k1
  clear hm1 hm2 k1 k3
  have hxx : x < 18446744073709551616 := by omega
  by_cases c1 : H < L
  · have hr := f1 c1
    subst hr
    clear f1 f2 f3 f4
    go_enter Tryd.func32, Tryd.ntmps32
    go_wp2_with fail
    refine (HM1.out _).mono ?_
    rintro e w' ⟨rfl, rfl⟩
    go_wp2_with fail
    refine (HM2.out _).mono ?_
    rintro e w' ⟨rfl, rfl⟩
    go_wp2
    go_ret
    exact ⟨rfl, rfl⟩
  by_cases c2 : H = L
  · subst c2
    by_cases c3 : D = 0
    · have hr := f2 rfl c3
      subst hr
      subst c3
      clear f1 f2 f3 f4
      go_enter Tryd.func32, Tryd.ntmps32
      go_wp2_with fail
      refine (HM1.out _).mono ?_
      rintro e w' ⟨rfl, rfl⟩
      go_wp2_with fail
      refine (HM2.out _).mono ?_
      rintro e w' ⟨rfl, rfl⟩
      go_wp2
      go_ret
      exact ⟨rfl, rfl⟩
    · have hr := f3 rfl c3
      subst hr
      have c3' : ((D : Int) == 0) = false := by simp [c3]
      clear f1 f2 f3 f4
      go_enter Tryd.func32, Tryd.ntmps32
      go_wp2_with fail
      refine (HM1.out _).mono ?_
      rintro e w' ⟨rfl, rfl⟩
      go_wp2_with fail
      refine (HM2.out _).mono ?_
      rintro e w' ⟨rfl, rfl⟩
      go_wp2
      go_ret
      exact ⟨rfl, rfl⟩
  · have c4 : L < H := by omega
    have hr := f4 c4
    subst hr
    have c5 : ((H : Int) == (L : Int)) = false := by simp; omega
    clear f1 f2 f3 f4
    go_enter Tryd.func32, Tryd.ntmps32
    go_wp2_with fail
    refine (HM1.out _).mono ?_
    rintro e w' ⟨rfl, rfl⟩
    go_wp2_with fail
    refine (HM2.out _).mono ?_
    rintro e w' ⟨rfl, rfl⟩
    go_wp2
    go_ret
    exact ⟨rfl, rfl⟩
end Go.Proofs.YtpkmhdnpnbkhiaaDoor
