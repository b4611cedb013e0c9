/- sha.Root: the first 32 bits behind the point of a square or a cube root; 0 of others. -/
import Derived.Test.YtpkmhdnpnbkhiaaDoorS
namespace Go.Proofs.YtpkmhdnpnbkhiaaDoor
open Go.RowKit
/-- the greatest number of 37 bits that a test lets by, from the highest bit on: behind k bits -/
def rt (P : Nat → Bool) : Nat → Nat
  | 0 => 0
  | k + 1 => if P (rt P k + 2 ^ (36 - k)) then rt P k + 2 ^ (36 - k) else rt P k
theorem rt_inv (P : Nat → Bool) (k : Nat) (hk : k ≤ 37) : ∃ m, rt P k = m * 2 ^ (37 - k) ∧ m < 2 ^ k := by
  induction k with
  | zero => exact ⟨0, by simp [rt], by simp⟩
  | succ k ih =>
    obtain ⟨m, h1, h2⟩ := ih (by omega)
    have e : 2 ^ (37 - k) = 2 * 2 ^ (37 - (k + 1)) := by rw [show 37 - k = (37 - (k + 1)) + 1 from by omega, Nat.pow_succ, Nat.mul_comm]
    have e2 : 2 ^ (36 - k) = 2 ^ (37 - (k + 1)) := by congr 1; omega
    have e3 : (2 : Nat) ^ (k + 1) = 2 * 2 ^ k := by rw [Nat.pow_succ, Nat.mul_comm]
    unfold rt
    split
    · refine ⟨2 * m + 1, ?_, by omega⟩
      rw [h1, e, e2, Nat.add_mul, Nat.one_mul, ← Nat.mul_assoc, Nat.mul_comm m 2]
    · refine ⟨2 * m, ?_, by omega⟩
      rw [h1, e, ← Nat.mul_assoc, Nat.mul_comm m 2]
theorem rt_lt (P : Nat → Bool) (k : Nat) (hk : k ≤ 36) : rt P k + 2 ^ (36 - k) < 137438953472 := by
  obtain ⟨m, h1, h2⟩ := rt_inv P k (by omega)
  have e : 2 ^ (37 - k) = 2 * 2 ^ (36 - k) := by rw [show 37 - k = (36 - k) + 1 from by omega, Nat.pow_succ, Nat.mul_comm]
  have e4 : 2 ^ k * 2 ^ (36 - k) = 2 ^ 36 := by rw [← Nat.pow_add]; congr 1; omega
  have h3 : (m + 1) * 2 ^ (36 - k) ≤ 2 ^ k * 2 ^ (36 - k) := Nat.mul_le_mul_right _ (by omega)
  have hp : 0 < 2 ^ (36 - k) := Nat.two_pow_pos _
  rw [e4, Nat.add_mul, Nat.one_mul] at h3
  have e5 : m * (2 * 2 ^ (36 - k)) = 2 * (m * 2 ^ (36 - k)) := by rw [← Nat.mul_assoc, Nat.mul_comm m 2, Nat.mul_assoc]
  rw [h1, e, e5]
  have : (2 : Nat) ^ 36 = 68719476736 := rfl
  omega
theorem rt_or (P : Nat → Bool) (k : Nat) (hk : k ≤ 36) : bits .or .u64 (rt P k : Int) ((2 ^ (36 - k) : Nat) : Int) = ((rt P k + 2 ^ (36 - k) : Nat) : Int) := by
  obtain ⟨m, h1, h2⟩ := rt_inv P k (by omega)
  have hlt := rt_lt P k hk
  have hp : 0 < 2 ^ (36 - k) := Nat.two_pow_pos _
  rw [u64_or_nat _ _ (by omega) (by omega)]
  congr 1
  refine nat_join (37 - k) _ _ (by rw [h1]; exact Nat.mul_mod_left _ _) (Nat.pow_lt_pow_right (by omega) (by omega))
/-- the 32 bits behind the point of a root -/
def rootW (n p : Nat) : UInt32 := UInt32.ofNat (rt (fun y => decide (y ^ p ≤ n * 2 ^ (32 * p))) 37)
theorem limit2_eq (y n : Nat) : inLimit (y * y) n = decide (y ^ 2 ≤ n * 2 ^ (32 * 2)) := by
  unfold inLimit; congr 1; rw [Nat.pow_two]
theorem limit3_eq (y n : Nat) : inLimit (y * y * y) (n * 4294967296) = decide (y ^ 3 ≤ n * 2 ^ (32 * 3)) := by
  unfold inLimit; congr 1
  rw [Nat.pow_succ, Nat.pow_two, Nat.mul_assoc n]
theorem u32_of (x : Nat) : (x : Int) % 4294967296 = ((UInt32.ofNat x).toNat : Int) := by
  rw [UInt32.toNat_ofNat']; simp
theorem bit_at (k : Nat) (hk : k ≤ 36) : 68719476736 / 2 ^ k = 2 ^ (36 - k) := by
  have : (68719476736 : Nat) = 2 ^ 36 := rfl
  rw [this, Nat.pow_div hk (by omega)]
set_option maxHeartbeats 400000 in
theorem limit2_any (n : Nat) (w : World) :
    Calls Tryd.prog 23 #[.int .u64 n, .int .i64 2] w fun e w' => e = .returned (.func (.func 32) #[] #[.pointer (some ⟨w.heap.size, 0, none⟩), .pointer (some ⟨w.heap.size + 1, 0, none⟩)]) ∧
      w' = (w.alloc (.cells #[.int .i64 2] 3)).alloc (.cells #[.int .u64 n] 45) := by
  go_enter Tryd.func23, Tryd.ntmps23
  go_wp2
  go_ret
  exact ⟨rfl, rfl⟩
set_option maxHeartbeats 400000 in
theorem limit3_any (n : Nat) (hn : n ≤ 1000) (w : World) :
    Calls Tryd.prog 23 #[.int .u64 n, .int .i64 3] w fun e w' => e = .returned (.func (.func 32) #[] #[.pointer (some ⟨w.heap.size, 0, none⟩), .pointer (some ⟨w.heap.size + 1, 0, none⟩)]) ∧
      w' = (w.alloc (.cells #[.int .i64 3] 3)).alloc (.cells #[.int .u64 ((n * 4294967296 : Nat) : Int)] 45) := by
  go_enter Tryd.func23, Tryd.ntmps23
  go_wp2
  go_ret
  exact ⟨rfl, by simp⟩
set_option maxHeartbeats 400000 in
theorem root2_any (n : Nat) (hn : n ≤ 1000) (w : World) :
    Calls Tryd.prog 12 #[.int .i64 n, .int .i64 2] w fun e w' => e = .returned (W32 (rootW n 2)) ∧ Below w.heap.size w w' := by
  have b1 : decide ((n : Int) < 0) = false := by simp
  have b2 : decide (1000 < (n : Int)) = false := by simp; omega
  obtain ⟨P, hP⟩ : ∃ P : Nat → Bool, P = fun y => decide (y ^ 2 ≤ n * 2 ^ (32 * 2)) := ⟨_, rfl⟩
  have HP := Lib.hid hP
  clear hP
  go_enter Tryd.func12, Tryd.ntmps12
  go_wp2_with (go_at_call 23; refine (limit2_any n _).mono ?_; rintro e w1 ⟨rfl, hw1⟩)
  clear w1 hw1
  have hp : ((w.alloc (.cells #[.int .i64 2] 3)).alloc (.cells #[.int .u64 (n : Int)] 45)).cell? ⟨w.heap.size, 0, none⟩ = some (.int .i64 2) := ((Has.fresh w 3 #[.int .i64 2]).alloc _).cell 0
  have hL : ((w.alloc (.cells #[.int .i64 2] 3)).alloc (.cells #[.int .u64 (n : Int)] 45)).cell? ⟨w.heap.size + 1, 0, none⟩ = some (.int .u64 (n : Int)) := Has.cell (t := 45) (heap_alloc2_new w _ _) 0
  have hb : Below w.heap.size w ((w.alloc (.cells #[.int .i64 2] 3)).alloc (.cells #[.int .u64 (n : Int)] 45)) := ((Below.refl _ _).alloc (Nat.le_refl _) _).alloc (by simp) _
  generalize (w.alloc (.cells #[.int .i64 2] 3)).alloc (.cells #[.int .u64 (n : Int)] 45) = W at hp hL hb ⊢
  go_loop [6, 7] (fun r b => ∃ k : Nat, k ≤ 37 ∧ b = .int .u64 ((68719476736 / 2 ^ k : Nat) : Int) ∧ r = .int .u64 (rt P k : Int)) (fun _ b => (intOf b).toNat)
  case atStart => exact ⟨0, by omega, rfl, rfl⟩
  case round =>
    obtain ⟨k, hk, rfl, rfl⟩ := hrel
    by_cases hk37 : k < 37
    · have hbit := bit_at k (by omega)
      have hpos : 0 < 2 ^ (36 - k) := Nat.two_pow_pos _
      have hlt := rt_lt P k (by omega)
      have hor := rt_or P k (by omega)
      have hnext : rt P (k + 1) = if P (rt P k + 2 ^ (36 - k)) then rt P k + 2 ^ (36 - k) else rt P k := rfl
      have hhalf : 68719476736 / 2 ^ (k + 1) = 2 ^ (36 - k) / 2 := by rw [Nat.pow_succ, ← Nat.div_div_eq_div_mul, hbit]
      have hPy : P (rt P k + 2 ^ (36 - k)) = inLimit ((rt P k + 2 ^ (36 - k)) * (rt P k + 2 ^ (36 - k))) (n) := by rw [HP.out]; exact (limit2_eq _ n).symm
      rw [hbit]
      generalize rt P k = x at hlt hor hnext hPy ⊢
      generalize 2 ^ (36 - k) = bt at hpos hlt hor hnext hhalf hPy ⊢
      have HN := Lib.hid hnext
      have HH := Lib.hid hhalf
      have HPY := Lib.hid hPy
      clear hnext hhalf hPy hbit
      have HC := Lib.hid (within2 (x + bt) (n) (by omega) ⟨w.heap.size, 0, none⟩ ⟨w.heap.size + 1, 0, none⟩ W hp hL)
      cases hq : P (x + bt)
      · have hr : rt P (k + 1) = x := by rw [HN.out, hq]; rfl
        have hc := HC.out
        rw [← HPY.out, hq] at hc
        have HC2 := Lib.hid hc
        have HQ := Lib.hid hr
        clear hc hr hq
        go_wp2_with (go_at_call 32; refine HC2.out.mono ?_; rintro e w' ⟨rfl, rfl⟩)
        go_round
        case rel => exact ⟨k + 1, by omega, by rw [HH.out]; simp, by rw [HQ.out]⟩
        case measure => simp [intOf]; omega
      · have hr : rt P (k + 1) = x + bt := by rw [HN.out, hq]; rfl
        have hc := HC.out
        rw [← HPY.out, hq] at hc
        have HC2 := Lib.hid hc
        have HQ := Lib.hid hr
        clear hc hr hq
        go_wp2_with (go_at_call 32; refine HC2.out.mono ?_; rintro e w' ⟨rfl, rfl⟩)
        go_round
        case rel => exact ⟨k + 1, by omega, by rw [HH.out]; simp, by rw [HQ.out]; simp⟩
        case measure => simp [intOf]; omega
    · have hk38 : k = 37 := by omega
      subst hk38
      have hz : 68719476736 / 2 ^ 37 = 0 := rfl
      rw [hz]
      generalize hx : rt P 37 = x
      have HX := Lib.hid hx
      clear hx
      go_wp2
      go_ret
      refine ⟨ret_int ?_, hb⟩
      unfold rootW
      rw [← HP.out, HX.out, ← u32_of]
set_option maxHeartbeats 400000 in
theorem root3_any (n : Nat) (hn : n ≤ 1000) (w : World) :
    Calls Tryd.prog 12 #[.int .i64 n, .int .i64 3] w fun e w' => e = .returned (W32 (rootW n 3)) ∧ Below w.heap.size w w' := by
  have b1 : decide ((n : Int) < 0) = false := by simp
  have b2 : decide (1000 < (n : Int)) = false := by simp; omega
  obtain ⟨P, hP⟩ : ∃ P : Nat → Bool, P = fun y => decide (y ^ 3 ≤ n * 2 ^ (32 * 3)) := ⟨_, rfl⟩
  have HP := Lib.hid hP
  clear hP
  go_enter Tryd.func12, Tryd.ntmps12
  go_wp2_with (go_at_call 23; refine (limit3_any n hn _).mono ?_; rintro e w1 ⟨rfl, hw1⟩)
  clear w1 hw1
  have hp : ((w.alloc (.cells #[.int .i64 3] 3)).alloc (.cells #[.int .u64 ((n : Int) * 4294967296)] 45)).cell? ⟨w.heap.size, 0, none⟩ = some (.int .i64 3) := ((Has.fresh w 3 #[.int .i64 3]).alloc _).cell 0
  have hL : ((w.alloc (.cells #[.int .i64 3] 3)).alloc (.cells #[.int .u64 ((n : Int) * 4294967296)] 45)).cell? ⟨w.heap.size + 1, 0, none⟩ = some (.int .u64 ((n : Int) * 4294967296)) := Has.cell (t := 45) (heap_alloc2_new w _ _) 0
  have hb : Below w.heap.size w ((w.alloc (.cells #[.int .i64 3] 3)).alloc (.cells #[.int .u64 ((n : Int) * 4294967296)] 45)) := ((Below.refl _ _).alloc (Nat.le_refl _) _).alloc (by simp) _
  generalize (w.alloc (.cells #[.int .i64 3] 3)).alloc (.cells #[.int .u64 ((n : Int) * 4294967296)] 45) = W at hp hL hb ⊢
  rw [show ((n : Int) * 4294967296) = ((n * 4294967296 : Nat) : Int) from by simp] at hL
  go_loop [6, 7] (fun r b => ∃ k : Nat, k ≤ 37 ∧ b = .int .u64 ((68719476736 / 2 ^ k : Nat) : Int) ∧ r = .int .u64 (rt P k : Int)) (fun _ b => (intOf b).toNat)
  case atStart => exact ⟨0, by omega, rfl, rfl⟩
  case round =>
    obtain ⟨k, hk, rfl, rfl⟩ := hrel
    by_cases hk37 : k < 37
    · have hbit := bit_at k (by omega)
      have hpos : 0 < 2 ^ (36 - k) := Nat.two_pow_pos _
      have hlt := rt_lt P k (by omega)
      have hor := rt_or P k (by omega)
      have hnext : rt P (k + 1) = if P (rt P k + 2 ^ (36 - k)) then rt P k + 2 ^ (36 - k) else rt P k := rfl
      have hhalf : 68719476736 / 2 ^ (k + 1) = 2 ^ (36 - k) / 2 := by rw [Nat.pow_succ, ← Nat.div_div_eq_div_mul, hbit]
      have hPy : P (rt P k + 2 ^ (36 - k)) = inLimit ((rt P k + 2 ^ (36 - k)) * (rt P k + 2 ^ (36 - k)) * (rt P k + 2 ^ (36 - k))) (n * 4294967296) := by rw [HP.out]; exact (limit3_eq _ n).symm
      rw [hbit]
      generalize rt P k = x at hlt hor hnext hPy ⊢
      generalize 2 ^ (36 - k) = bt at hpos hlt hor hnext hhalf hPy ⊢
      have HN := Lib.hid hnext
      have HH := Lib.hid hhalf
      have HPY := Lib.hid hPy
      clear hnext hhalf hPy hbit
      have HC := Lib.hid (within3 (x + bt) (n * 4294967296) (by omega) ⟨w.heap.size, 0, none⟩ ⟨w.heap.size + 1, 0, none⟩ W hp hL)
      cases hq : P (x + bt)
      · have hr : rt P (k + 1) = x := by rw [HN.out, hq]; rfl
        have hc := HC.out
        rw [← HPY.out, hq] at hc
        have HC2 := Lib.hid hc
        have HQ := Lib.hid hr
        clear hc hr hq
        go_wp2_with (go_at_call 32; refine HC2.out.mono ?_; rintro e w' ⟨rfl, rfl⟩)
        go_round
        case rel => exact ⟨k + 1, by omega, by rw [HH.out]; simp, by rw [HQ.out]⟩
        case measure => simp [intOf]; omega
      · have hr : rt P (k + 1) = x + bt := by rw [HN.out, hq]; rfl
        have hc := HC.out
        rw [← HPY.out, hq] at hc
        have HC2 := Lib.hid hc
        have HQ := Lib.hid hr
        clear hc hr hq
        go_wp2_with (go_at_call 32; refine HC2.out.mono ?_; rintro e w' ⟨rfl, rfl⟩)
        go_round
        case rel => exact ⟨k + 1, by omega, by rw [HH.out]; simp, by rw [HQ.out]; simp⟩
        case measure => simp [intOf]; omega
    · have hk38 : k = 37 := by omega
      subst hk38
      have hz : 68719476736 / 2 ^ 37 = 0 := rfl
      rw [hz]
      generalize hx : rt P 37 = x
      have HX := Lib.hid hx
      clear hx
      go_wp2
      go_ret
      refine ⟨ret_int ?_, hb⟩
      unfold rootW
      rw [← HP.out, HX.out, ← u32_of]
set_option maxHeartbeats 400000 in
theorem root_none (n p : Int) (h : n < 0 ∨ 1000 < n ∨ (p ≠ 2 ∧ p ≠ 3)) (w : World) :
    Calls Tryd.prog 12 #[.int .i64 n, .int .i64 p] w fun e w' => e = .returned (W32 0) ∧ Below w.heap.size w w' := by
  by_cases c1 : n < 0
  · go_enter Tryd.func12, Tryd.ntmps12
    go_wp2
    go_ret
    exact ⟨rfl, Below.refl _ _⟩
  by_cases c2 : 1000 < n
  · go_enter Tryd.func12, Tryd.ntmps12
    go_wp2
    go_ret
    exact ⟨rfl, Below.refl _ _⟩
  · have c3 : (p != 2) = true := by simp; omega
    have c4 : (p != 3) = true := by simp; omega
    have d1 : decide (n < 0) = false := by simp; omega
    have d2 : decide (1000 < n) = false := by simp; omega
    go_enter Tryd.func12, Tryd.ntmps12
    go_wp2
    go_ret
    exact ⟨rfl, Below.refl _ _⟩
end Go.Proofs.YtpkmhdnpnbkhiaaDoor
