/- math/bits.Mul64 and the limit of a square root: walked. -/
import Derived.Test.YtpkmhdnpnbkhiaaDoorB
import Derived.Lib.Mul64
import Derived.Laws.Bits64b
namespace Go.Proofs.YtpkmhdnpnbkhiaaDoor
open Go.RowKit
theorem maskN (a : Nat) (ha : a < 18446744073709551616) : bits .and .u64 (a : Int) 4294967295 = ((a % 4294967296 : Nat) : Int) := by
  have h := bits_and_u64_nat a 4294967295 ha (by omega)
  have e : a &&& 4294967295 = a % 4294967296 := Nat.and_two_pow_sub_one_eq_mod a 32
  rw [e] at h
  exact h
theorem divN (a : Nat) : (a : Int) / 4294967296 = ((a / 4294967296 : Nat) : Int) := by omega
theorem mulN (a b : Nat) : (a : Int) * (b : Int) = ((a * b : Nat) : Int) := (Int.natCast_mul a b).symm
theorem addN (a b : Nat) : (a : Int) + (b : Int) = ((a + b : Nat) : Int) := (Int.natCast_add a b).symm
theorem wrapN (a : Nat) (ha : a < 18446744073709551616) : IntKind.u64.wrap (a : Int) = (a : Int) := by rw [IntKind.wrap_u64]; omega
theorem wrapM (a : Nat) : IntKind.u64.wrap (a : Int) = ((a % 18446744073709551616 : Nat) : Int) := by rw [IntKind.wrap_u64]; omega
set_option maxHeartbeats 1000000 in
theorem mul64_any (x y : Nat) (hx : x < 18446744073709551616) (hy : y < 18446744073709551616) (w : World) :
    Calls Tryd.prog 33 #[.int .u64 x, .int .u64 y] w fun e w' => e = .returned (.tuple #[.int .u64 ((x * y / 18446744073709551616 : Nat) : Int), .int .u64 ((x * y % 18446744073709551616 : Nat) : Int)]) ∧ w = w' := by
  obtain ⟨bd, bt, bw, hhi⟩ := Lib.mul64_hi x y hx hy
  have ba := Lib.half_mul_le (a := x / 4294967296) (b := y / 4294967296) (by omega) (by omega)
  have bb := Lib.half_mul_le (a := x / 4294967296) (b := y % 4294967296) (by omega) (by omega)
  have bc := Lib.half_mul_le (a := x % 4294967296) (b := y / 4294967296) (by omega) (by omega)
  have ba' : x / 4294967296 * (y / 4294967296) < 18446744073709551616 := by omega
  have bb' : x / 4294967296 * (y % 4294967296) < 18446744073709551616 := by omega
  have bc' : x % 4294967296 * (y / 4294967296) < 18446744073709551616 := by omega
  have bh1 : x / 4294967296 * (y / 4294967296) + (x / 4294967296 * (y % 4294967296) + x % 4294967296 * (y % 4294967296) / 4294967296) / 4294967296 < 18446744073709551616 := by omega
  have bh : x / 4294967296 * (y / 4294967296) + (x / 4294967296 * (y % 4294967296) + x % 4294967296 * (y % 4294967296) / 4294967296) / 4294967296 + ((x / 4294967296 * (y % 4294967296) + x % 4294967296 * (y % 4294967296) / 4294967296) % 4294967296 + x % 4294967296 * (y / 4294967296)) / 4294967296 < 18446744073709551616 := by omega
  go_enter Tryd.func33, Tryd.ntmps33
  go_wp2
  simp only [maskN x hx, maskN y hy, divN, mulN, addN, wrapN _ bd, wrapN _ bb', wrapN _ bt, maskN _ bt, wrapN _ bc', wrapN _ bw, wrapN _ ba', wrapN _ bh1, wrapN _ bh, wrapM (x * y)]
  rw [hhi]
  go_ret2
  exact ⟨rfl, rfl⟩

/-- is x to a power no more than the limit, of two words the upper one? -/
def inLimit (q L : Nat) : Bool := decide (q ≤ L * 18446744073709551616)
theorem inLimit_lt (q L : Nat) (h : q / 18446744073709551616 < L) : inLimit q L = true := by
  unfold inLimit; simp; omega
theorem inLimit_eq (q L : Nat) (h : q / 18446744073709551616 = L) (h0 : q % 18446744073709551616 = 0) : inLimit q L = true := by
  unfold inLimit; simp; omega
theorem inLimit_ne (q L : Nat) (h : q / 18446744073709551616 = L) (h0 : ¬ q % 18446744073709551616 = 0) : inLimit q L = false := by
  unfold inLimit; simp; omega
theorem inLimit_gt (q L : Nat) (h : L < q / 18446744073709551616) : inLimit q L = false := by
  unfold inLimit; simp; omega

set_option maxHeartbeats 400000 in
theorem within2 (x L : Nat) (hx : x < 18446744073709551616) (a b : Addr) (w : World) (hp : w.cell? a = some (.int .i64 2)) (hL : w.cell? b = some (.int .u64 L)) :
    Calls Tryd.prog 32 #[.int .u64 x, .pointer (some a), .pointer (some b)] w fun e w' => e = .returned (.bool (inLimit (x * x) L)) ∧ w = w' := by
  have HM := Lib.hid (mul64_any x x hx hx)
  have f1 := inLimit_lt (x * x) L
  have f2 := inLimit_eq (x * x) L
  have f3 := inLimit_ne (x * x) L
  have f4 := inLimit_gt (x * x) L
  generalize inLimit (x * x) L = r at f1 f2 f3 f4 ⊢
  generalize x * x / 18446744073709551616 = h at HM f1 f2 f3 f4
  generalize x * x % 18446744073709551616 = l at HM f2 f3
  by_cases c1 : h < L
  · have hr := f1 c1
    subst hr
    clear f1 f2 f3 f4
    go_enter Tryd.func32, Tryd.ntmps32
    go_wp2_with (go_at_call 33; refine (HM.out _).mono ?_; rintro e w' ⟨rfl, rfl⟩)
    go_ret
    exact ⟨rfl, rfl⟩
  by_cases c2 : h = L
  · subst c2
    by_cases c3 : l = 0
    · have hr := f2 rfl c3
      subst hr
      subst c3
      clear f1 f2 f3 f4
      go_enter Tryd.func32, Tryd.ntmps32
      go_wp2_with (go_at_call 33; refine (HM.out _).mono ?_; rintro e w' ⟨rfl, rfl⟩)
      go_ret
      exact ⟨rfl, rfl⟩
    · have hr := f3 rfl c3
      subst hr
      have c3' : ((l : Int) == 0) = false := by simp [c3]
      clear f1 f2 f3 f4
      go_enter Tryd.func32, Tryd.ntmps32
      go_wp2_with (go_at_call 33; refine (HM.out _).mono ?_; rintro e w' ⟨rfl, rfl⟩)
      go_ret
      exact ⟨rfl, rfl⟩
  · have c4 : L < h := by omega
    have hr := f4 c4
    subst hr
    have c5 : ((h : Int) == (L : Int)) = false := by simp; omega
    clear f1 f2 f3 f4
    go_enter Tryd.func32, Tryd.ntmps32
    go_wp2_with (go_at_call 33; refine (HM.out _).mono ?_; rintro e w' ⟨rfl, rfl⟩)
    go_ret
    exact ⟨rfl, rfl⟩
end Go.Proofs.YtpkmhdnpnbkhiaaDoor
