/- math/bits.Add64, math/bits.Mul64 and curve.taken: walked. -/
import Derived.Test.YtdikkdediofieaaRows
import Derived.Lib.Hide
import Derived.Test.YtdikkdediofieaaPA
import Derived.Test.YtdikkdediofieaaHR
import Derived.Test.YtdikkdediofieaaHG2
import Derived.RegionTactic
import Derived.BigRegion
import Derived.Deep.RegionWith
import Derived.Deep.WholeRow
import Derived.Deep.DeepCutAuto
import Derived.WalkSmall
import Derived.Lib.Mul64
import Derived.Laws.Externs
namespace Go.Proofs.Ytdikkdediofieaa
open Go.RowKit
theorem add64_run (x y c : Nat) (hc : c ≤ 1) (w : World) : (callFunc 39 #[U64 x, U64 y, U64 c]).run Try.prog w = .ok (.value (.tuple #[U64 ((x + y + c) % 18446744073709551616), U64 ((x + y + c) / 18446744073709551616)])) w := by
  rw [run_callFunc_extern Try.func39 (by kernel_rfl) (by kernel_rfl) (by kernel_rfl) (e := add64Entry) (by kernel_rfl), run_add64 x y c (by omega) (by omega) (by omega) (by omega)]
  simp only [Result.andThen]
  congr 5 <;> omega
/-- the sum and the carry under names -/
theorem add64_eq (x y c s k : Nat) (hc : c ≤ 1) (hs : (x + y + c) % 18446744073709551616 = s) (hk : (x + y + c) / 18446744073709551616 = k) (w : World) : (callFunc 39 #[U64 x, U64 y, U64 c]).run Try.prog w = .ok (.value (.tuple #[U64 s, U64 k])) w := by
  rw [add64_run x y c hc, hs, hk]
theorem add64_eq0 (x y s k : Nat) (hs : (x + y) % 18446744073709551616 = s) (hk : (x + y) / 18446744073709551616 = k) (w : World) : (callFunc 39 #[U64 x, U64 y, .int .u64 0]).run Try.prog w = .ok (.value (.tuple #[U64 s, U64 k])) w := add64_eq x y 0 s k (by omega) hs hk w
theorem maskN (a : Nat) (ha : a < 18446744073709551616) : bits .and .u64 (a : Int) 4294967295 = ((a % 4294967296 : Nat) : Int) := by
  have h := bits_and_u64_nat a 4294967295 ha (by omega)
  have e : a &&& 4294967295 = a % 4294967296 := Nat.and_two_pow_sub_one_eq_mod a 32
  rw [e] at h
  exact h
theorem divN (a : Nat) : (a : Int) / 4294967296 = ((a / 4294967296 : Nat) : Int) := by omega
theorem mulN (a b : Nat) : (a : Int) * (b : Int) = ((a * b : Nat) : Int) := (Int.natCast_mul a b).symm
theorem addN (a b : Nat) : (a : Int) + (b : Int) = ((a + b : Nat) : Int) := (Int.natCast_add a b).symm
theorem wrapN (a : Nat) (ha : a < 18446744073709551616) : IntKind.u64.wrap (a : Int) = (a : Int) := by rw [IntKind.wrap_u64]; omega
theorem wrapM (a : Nat) : IntKind.u64.wrap (a : Int) = ((a % 18446744073709551616 : Nat) : Int) := by rw [IntKind.wrap_u64]; omega
set_option maxHeartbeats 1000000 in
theorem mul64_any (x y : Nat) (hx : x < 18446744073709551616) (hy : y < 18446744073709551616) (w : World) :
    Calls Try.prog 38 #[.int .u64 x, .int .u64 y] w fun e w' => e = .returned (.tuple #[.int .u64 ((x * y / 18446744073709551616 : Nat) : Int), .int .u64 ((x * y % 18446744073709551616 : Nat) : Int)]) ∧ w = w' := by
  obtain ⟨bd, bt, bw, hhi⟩ := Lib.mul64_hi x y hx hy
  have ba := Lib.half_mul_le (a := x / 4294967296) (b := y / 4294967296) (by omega) (by omega)
  have bb := Lib.half_mul_le (a := x / 4294967296) (b := y % 4294967296) (by omega) (by omega)
  have bc := Lib.half_mul_le (a := x % 4294967296) (b := y / 4294967296) (by omega) (by omega)
  have ba' : x / 4294967296 * (y / 4294967296) < 18446744073709551616 := by omega
  have bb' : x / 4294967296 * (y % 4294967296) < 18446744073709551616 := by omega
  have bc' : x % 4294967296 * (y / 4294967296) < 18446744073709551616 := by omega
  have bh1 : x / 4294967296 * (y / 4294967296) + (x / 4294967296 * (y % 4294967296) + x % 4294967296 * (y % 4294967296) / 4294967296) / 4294967296 < 18446744073709551616 := by omega
  have bh : x / 4294967296 * (y / 4294967296) + (x / 4294967296 * (y % 4294967296) + x % 4294967296 * (y % 4294967296) / 4294967296) / 4294967296 + ((x / 4294967296 * (y % 4294967296) + x % 4294967296 * (y % 4294967296) / 4294967296) % 4294967296 + x % 4294967296 * (y / 4294967296)) / 4294967296 < 18446744073709551616 := by omega
  go_enter Try.func38, Try.ntmps38
  go_wp2
  simp only [maskN x hx, maskN y hy, divN, mulN, addN, wrapN _ bd, wrapN _ bb', wrapN _ bt, maskN _ bt, wrapN _ bc', wrapN _ bw, wrapN _ ba', wrapN _ bh1, wrapN _ bh, wrapM (x * y)]
  rw [hhi]
  go_ret2
  exact ⟨rfl, rfl⟩
theorem mul_le64 {x y : Nat} (hx : x < 18446744073709551616) (hy : y < 18446744073709551616) : x * y ≤ 340282366920938463426481119284349108225 := Nat.mul_le_mul (Nat.le_of_lt_succ hx) (Nat.le_of_lt_succ hy)
set_option maxHeartbeats 1000000 in
theorem taken_any (x y m c : Nat) (hx : x < 18446744073709551616) (hy : y < 18446744073709551616) (hm : m < 18446744073709551616) (hc : c < 18446744073709551616) (w : World) :
    Calls Try.prog 32 #[U64 x, U64 y, U64 m, U64 c] w fun e w' => e = .returned (.tuple #[U64 ((x * y + m + c) / 18446744073709551616), U64 ((x * y + m + c) % 18446744073709551616)]) ∧ w = w' := by
  have HM := Lib.hid (mul64_any x y hx hy)
  have hle := mul_le64 hx hy
  generalize x * y = p at HM hle ⊢
  generalize hh : p / 18446744073709551616 = h at HM
  generalize hl : p % 18446744073709551616 = l at HM
  obtain ⟨s1, hs1⟩ : ∃ s, (l + m) % 18446744073709551616 = s := ⟨_, rfl⟩
  obtain ⟨k1, hk1⟩ : ∃ k, (l + m) / 18446744073709551616 = k := ⟨_, rfl⟩
  obtain ⟨s2, hs2⟩ : ∃ s, (s1 + c) % 18446744073709551616 = s := ⟨_, rfl⟩
  obtain ⟨k2, hk2⟩ : ∃ k, (s1 + c) / 18446744073709551616 = k := ⟨_, rfl⟩
  have e1 : (p + m + c) / 18446744073709551616 = h + k1 + k2 := by omega
  have e2 : (p + m + c) % 18446744073709551616 = s2 := by omega
  have b1 : IntKind.u64.wrap ((h : Int) + (k1 : Int)) = ((h + k1 : Nat) : Int) := by rw [addN, wrapN _ (by omega)]
  have b2 : IntKind.u64.wrap (((h + k1 : Nat) : Int) + (k2 : Int)) = ((h + k1 + k2 : Nat) : Int) := by rw [addN, wrapN _ (by omega)]
  rw [e1, e2]
  have A1 := Lib.hid (add64_eq0 l m s1 k1 hs1 hk1)
  have A2 := Lib.hid (add64_eq0 s1 c s2 k2 hs2 hk2)
  generalize h + k1 = h1 at b1 b2 ⊢
  generalize h1 + k2 = h2 at b2 ⊢
  have B1 := Lib.hid b1
  have B2 := Lib.hid b2
  clear b1 b2 hs1 hk1 hs2 hk2 hh hl e1 e2 hle
  go_enter Try.func32, Try.ntmps32
  go_wp2_with (first | (go_at_call 38; refine (HM.out _).mono ?_; rintro e w' ⟨rfl, rfl⟩) | simp only [A1.out] | simp only [A2.out] | simp only [B1.out] | simp only [B2.out])
  go_ret2
  exact ⟨rfl, rfl⟩
end Go.Proofs.Ytdikkdediofieaa
