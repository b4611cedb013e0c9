/- bits.RotateLeft32, cha.Quarter, causeylaw03.awake, causeylaw03.turn: walked. -/
import Derived.Test.YtfhjokbbaoldiaaRows
import Derived.Test.YtfhjokbbaoldiaaTA
import Derived.WalkKit
import Derived.WalkSpells
import Derived.WalkLawsBesides
import Derived.BigQuiet
import Derived.Lib.Hide
namespace Go.Proofs.Ytfhjokbbaoldiaa
open Go.RowKit
theorem rotl_amount (k : Nat) (hk : k < 32) : bits .and .u64 (k : Int) 31 = (k : Int) := by
  have h31 : (31 : Int) = ((31 : Nat) : Int) := rfl
  rw [h31, u64_and_nat _ _ (by omega) (by omega), nat_mask5]
  omega
theorem rotl_end (x : UInt32) (k : Nat) (h : k ≤ 32) : bits .or .u32 ((x.toNat : Int) * 2 ^ k % 4294967296) ((x.toNat : Int) / 2 ^ (32 - k)) = ((rotl x k).toNat : Int) := rot_end x (32 - k) k (by omega)
set_option maxHeartbeats 400000 in
theorem rotL_any (x : UInt32) (n : Int) (h0 : 0 < n) (h1 : n < 32) (w : World) :
    Calls Try.prog 64 #[W32 x, .int .i64 n] w fun e w' => e = .returned (W32 (rotl x n.toNat)) ∧ w = w' := by
  obtain ⟨k, rfl⟩ := Int.eq_ofNat_of_zero_le (Int.le_of_lt h0)
  rw [Int.toNat_natCast]
  have hk : k < 32 := by omega
  have hr := rotl_amount k hk
  have he := Lib.hid (rotl_end x k (by omega))
  go_enter Try.func64, Try.ntmps64
  go_wp2
  go_ret
  exact ⟨ret_int he.out, rfl⟩
theorem results_tmp4 {fn : Func} {t u v x : Tmp} (h : fn.results = #[.tmp t, .tmp u, .tmp v, .tmp x]) (tmps : Array Value) (P : Program) (w : World) :
    (results fn tmps).run P w = .ok (.tuple #[tmps.getD t undef, tmps.getD u undef, tmps.getD v undef, tmps.getD x undef]) w := by
  simp [results, h]
set_option maxHeartbeats 400000 in
theorem quarter_any (a b c d : UInt32) (w : World) :
    Calls Try.prog 56 #[W32 a, W32 b, W32 c, W32 d] w fun e w' => e = .returned (.tuple #[W32 (qr a b c d).a, W32 (qr a b c d).b, W32 (qr a b c d).c, W32 (qr a b c d).d]) ∧ w = w' := by
  go_enter Try.func56, Try.ntmps56
  go_wp2_with fail
  simp only [add32, xor32]
  generalize h1 : a + b = a1
  have Ha1 := Lib.hid h1
  clear h1
  refine (rotL_any _ _ (by omega) (by omega) _).mono ?_
  rintro e w' ⟨rfl, rfl⟩
  simp only [Int.reduceToNat]
  generalize h1 : rotl (d ^^^ a1) 16 = d1
  have Hd1 := Lib.hid h1
  clear h1
  go_wp2_with fail
  simp only [add32, xor32]
  generalize h1 : c + d1 = c1
  have Hc1 := Lib.hid h1
  clear h1
  refine (rotL_any _ _ (by omega) (by omega) _).mono ?_
  rintro e w' ⟨rfl, rfl⟩
  simp only [Int.reduceToNat]
  generalize h1 : rotl (b ^^^ c1) 12 = b1
  have Hb1 := Lib.hid h1
  clear h1
  go_wp2_with fail
  simp only [add32, xor32]
  generalize h1 : a1 + b1 = a2
  have Ha2 := Lib.hid h1
  clear h1
  refine (rotL_any _ _ (by omega) (by omega) _).mono ?_
  rintro e w' ⟨rfl, rfl⟩
  simp only [Int.reduceToNat]
  generalize h1 : rotl (d1 ^^^ a2) 8 = d2
  have Hd2 := Lib.hid h1
  clear h1
  go_wp2_with fail
  simp only [add32, xor32]
  generalize h1 : c1 + d2 = c2
  have Hc2 := Lib.hid h1
  clear h1
  refine (rotL_any _ _ (by omega) (by omega) _).mono ?_
  rintro e w' ⟨rfl, rfl⟩
  simp only [Int.reduceToNat]
  generalize h1 : rotl (b1 ^^^ c2) 7 = b2
  have Hb2 := Lib.hid h1
  clear h1
  go_wp2_with fail
  (try simp only [Exit.inBlock, Exit.then])
  refine bodyPost_ret (results_tmp4 rfl _ _ _) rfl ?_
  have e : qr a b c d = ⟨a2, b2, c2, d2⟩ := by
    have e1 : qh1 ⟨a, b, c, d⟩ = ⟨a1, b1, c1, d1⟩ := by
      unfold qh1; simp only; rw [Ha1.out, Hd1.out, Hc1.out, Hb1.out]
    unfold qr
    rw [e1]
    unfold qh2; simp only; rw [Ha2.out, Hd2.out, Hc2.out, Hb2.out]
  rw [e]
  exact ⟨rfl, rfl⟩
end Go.Proofs.Ytfhjokbbaoldiaa
