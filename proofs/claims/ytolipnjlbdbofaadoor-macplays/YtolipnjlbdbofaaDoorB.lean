/- The leaves of package sha, walked: RotateLeft32, turned, mixed, word. -/
import Derived.Test.YtolipnjlbdbofaaDoorRows
import Derived.Test.YtolipnjlbdbofaaDoorA2
import Derived.WalkKit
import Derived.WalkSpells
import Derived.WalkLawsBesides
import Derived.BigQuiet
import Derived.Lib.Hide
namespace Go.Proofs.YtolipnjlbdbofaaDoor
open Go.RowKit
theorem rot_amount (n m : Nat) (h : n + m = 32) (hm : 0 < m) (hn : 0 < n) : bits .and .u64 (IntKind.u64.wrap (-(n : Int))) 31 = (m : Int) := by
  have e : IntKind.u64.wrap (-(n : Int)) = ((18446744073709551616 - n : Nat) : Int) := by rw [IntKind.wrap_u64]; omega
  have h31 : (31 : Int) = ((31 : Nat) : Int) := rfl
  rw [e, h31, u64_and_nat _ _ (by omega) (by omega), nat_mask5]
  omega

set_option maxHeartbeats 400000 in
theorem rot_any (x : UInt32) (n m : Nat) (h : n + m = 32) (hm : 0 < m) (hn : 0 < n) (w : World) :
    Calls Tryd.prog 40 #[W32 x, .int .i64 (-(n : Int))] w fun e w' => e = .returned (W32 (rotr x n)) ∧ w = w' := by
  have hr := rot_amount n m h hm hn
  have he := Lib.hid (rot_end x n m h)
  go_enter Tryd.func40, Tryd.ntmps40
  go_wp2
  go_ret
  exact ⟨ret_int he.out, rfl⟩

set_option maxHeartbeats 400000 in
theorem turned_any (x : UInt32) (k : Int) (hn : 0 < k) (h : k < 32) (w : World) :
    Calls Tryd.prog 39 #[W32 x, .int .i64 k] w fun e w' => e = .returned (W32 (rotr x k.toNat)) ∧ w = w' := by
  obtain ⟨n, rfl⟩ := Int.eq_ofNat_of_zero_le (Int.le_of_lt hn)
  rw [Int.toNat_natCast]
  have hc := rot_any x n (32 - n) (by omega) (by omega) (by omega)
  have HC := Lib.hid hc
  clear hc
  go_enter Tryd.func39, Tryd.ntmps39
  go_wp2_with (go_at_call 40; refine (HC.out _).mono ?_; rintro e w' ⟨rfl, rfl⟩)
  go_ret
  exact ⟨rfl, rfl⟩

set_option maxHeartbeats 400000 in
theorem mixed_any (x : UInt32) (i j k : Int) (i0 : 0 < i) (i1 : i < 32) (j0 : 0 < j) (j1 : j < 32) (k0 : 0 < k) (k1 : k < 32) (w : World) :
    Calls Tryd.prog 37 #[W32 x, .int .i64 i, .int .i64 j, .int .i64 k] w fun e w' => e = .returned (W32 (mix3 x i.toNat j.toNat k.toNat)) ∧ w = w' := by
  go_enter Tryd.func37, Tryd.ntmps37
  go_wp2_with (go_at_call 39; refine (turned_any x _ (by omega) (by omega) _).mono ?_; rintro e w' ⟨rfl, rfl⟩)
  simp only [xor32]
  go_ret
  exact ⟨rfl, rfl⟩

set_option maxHeartbeats 400000 in
theorem word_any (s : ByteArray) (hs : s.size = 4) (w : World) :
    Calls Tryd.prog 38 #[.string s] w fun e w' => e = .returned (W32 (wordOf (bAt s 0) (bAt s 1) (bAt s 2) (bAt s 3))) ∧ ∃ n, w' = w.drewN n := by
  have h0 : 0 < s.size := by omega
  have h1 : 1 < s.size := by omega
  have h2 : 2 < s.size := by omega
  have h3 : 3 < s.size := by omega
  have he := Lib.hid (word_end s[0] s[1] s[2] s[3])
  go_enter Tryd.func38, Tryd.ntmps38
  go_wp2
  go_quiet (fail)
  go_wp2
  go_ret
  refine ⟨ret_int (he.out.trans ?_), _, rfl⟩
  rw [bAt_eq, bAt_eq, bAt_eq, bAt_eq]
end Go.Proofs.YtolipnjlbdbofaaDoor
