/- The walk of law ShaRoots. -/
import Derived.Test.YtpkmhdnpnbkhiaaDoorRE
import Derived.Test.YtpkmhdnpnbkhiaaDoorK
namespace Go.Proofs.YtpkmhdnpnbkhiaaDoor
open Go.RowKit
theorem primes_none (n : Int) (w : World) (h : n < 0 ∨ 100 < n) :
    Calls Tryd.prog 20 #[.int .i64 n] w fun e w' => e = .returned (.slice none 0 0) ∧ w' = w := by
  by_cases c1 : n < 0
  · go_enter Tryd.func20, Tryd.ntmps20
    go_wp2
    go_ret
    exact ⟨rfl, rfl⟩
  · have c2 : 100 < n := by omega
    go_enter Tryd.func20, Tryd.ntmps20
    go_wp2
    go_ret
    exact ⟨rfl, rfl⟩
theorem refRoot2 (n : Nat) (hn : n ≤ 1000) (w : World) : Calls Tryd.prog 21 #[.int .i64 n, .int .i64 2] w fun e w' => e = .returned (W32 (rootW n 2)) ∧ Below w.heap.size w w' := refRoot_any n 2 hn (Or.inl rfl) w
theorem refRoot3 (n : Nat) (hn : n ≤ 1000) (w : World) : Calls Tryd.prog 21 #[.int .i64 n, .int .i64 3] w fun e w' => e = .returned (W32 (rootW n 3)) ∧ Below w.heap.size w w' := refRoot_any n 3 hn (Or.inr rfl) w
set_option maxHeartbeats 1000000 in
theorem roots_neg (n p : Int) (hn : n < 0) (w : World) (hK : HasK w) :
    Calls Tryd.prog 6 #[.int .i64 n, .int .i64 p] w fun e w' => e = .returned (.bool true) ∧ Below w.heap.size w w' := by
  have b1 : decide (n < 0) = true := by simp; omega
  have E : HasK w ∧ Below w.heap.size w w := ⟨hK, Below.refl _ _⟩
  go_enter Tryd.func6, Tryd.ntmps6
  go_wp2_with fail
  have hk := E.1
  refine (awake_any _ hk).mono ?_
  rintro e wq ⟨rfl, hbq⟩
  replace E : HasK wq ∧ Below w.heap.size w wq := ⟨E.1.below E.1.lt hbq, E.2.trans (hbq.mono E.2.size)⟩
  clear hk hbq
  go_wp2_with fail
  refine (primes_none _ _ (by omega)).mono ?_
  rintro e wp ⟨rfl, rfl⟩
  go_wp2_with fail
  refine (root_none n p (Or.inl hn) _).mono ?_
  rintro e wr ⟨rfl, hbr⟩
  replace E : HasK wr ∧ Below w.heap.size w wr := ⟨E.1.below E.1.lt hbr, E.2.trans (hbr.mono E.2.size)⟩
  clear hbr
  go_wp2
  go_ret
  exact ⟨by first | rfl | simp, E.2⟩
set_option maxHeartbeats 1000000 in
theorem roots_over (n p : Int) (hn : 1000 < n) (w : World) (hK : HasK w) :
    Calls Tryd.prog 6 #[.int .i64 n, .int .i64 p] w fun e w' => e = .returned (.bool true) ∧ Below w.heap.size w w' := by
  have b1 : decide (n < 0) = false := by simp; omega
  have b2 : decide (100 < n) = true := by simp; omega
  have b3 : decide (1000 < n) = true := by simp; omega
  have E : HasK w ∧ Below w.heap.size w w := ⟨hK, Below.refl _ _⟩
  go_enter Tryd.func6, Tryd.ntmps6
  go_wp2_with fail
  have hk := E.1
  refine (awake_any _ hk).mono ?_
  rintro e wq ⟨rfl, hbq⟩
  replace E : HasK wq ∧ Below w.heap.size w wq := ⟨E.1.below E.1.lt hbq, E.2.trans (hbq.mono E.2.size)⟩
  clear hk hbq
  go_wp2_with fail
  refine (primes_none _ _ (by omega)).mono ?_
  rintro e wp ⟨rfl, rfl⟩
  go_wp2_with fail
  refine (root_none n p (Or.inr (Or.inl hn)) _).mono ?_
  rintro e wr ⟨rfl, hbr⟩
  replace E : HasK wr ∧ Below w.heap.size w wr := ⟨E.1.below E.1.lt hbr, E.2.trans (hbr.mono E.2.size)⟩
  clear hbr
  go_wp2
  go_ret
  exact ⟨by first | rfl | simp, E.2⟩
set_option maxHeartbeats 1000000 in
theorem roots_midnone (n p : Int) (hn : 100 < n) (hn2 : n ≤ 1000) (hp2 : p ≠ 2) (hp3 : p ≠ 3) (w : World) (hK : HasK w) :
    Calls Tryd.prog 6 #[.int .i64 n, .int .i64 p] w fun e w' => e = .returned (.bool true) ∧ Below w.heap.size w w' := by
  have b1 : decide (n < 0) = false := by simp; omega
  have b2 : decide (100 < n) = true := by simp; omega
  have b3 : decide (1000 < n) = false := by simp; omega
  have b4 : (p != 2) = true := by simp; omega
  have b5 : (p != 3) = true := by simp; omega
  have E : HasK w ∧ Below w.heap.size w w := ⟨hK, Below.refl _ _⟩
  go_enter Tryd.func6, Tryd.ntmps6
  go_wp2_with fail
  have hk := E.1
  refine (awake_any _ hk).mono ?_
  rintro e wq ⟨rfl, hbq⟩
  replace E : HasK wq ∧ Below w.heap.size w wq := ⟨E.1.below E.1.lt hbq, E.2.trans (hbq.mono E.2.size)⟩
  clear hk hbq
  go_wp2_with fail
  refine (primes_none _ _ (by omega)).mono ?_
  rintro e wp ⟨rfl, rfl⟩
  go_wp2_with fail
  refine (root_none n p (Or.inr (Or.inr ⟨hp2, hp3⟩)) _).mono ?_
  rintro e wr ⟨rfl, hbr⟩
  replace E : HasK wr ∧ Below w.heap.size w wr := ⟨E.1.below E.1.lt hbr, E.2.trans (hbr.mono E.2.size)⟩
  clear hbr
  go_wp2
  go_ret
  exact ⟨by first | rfl | simp, E.2⟩
set_option maxHeartbeats 1000000 in
theorem roots_mid2 (n : Nat) (hn : 100 < n) (hn2 : n ≤ 1000) (w : World) (hK : HasK w) :
    Calls Tryd.prog 6 #[.int .i64 n, .int .i64 2] w fun e w' => e = .returned (.bool true) ∧ Below w.heap.size w w' := by
  have b1 : decide ((n : Int) < 0) = false := by simp
  have b2 : decide (100 < (n : Int)) = true := by simp; omega
  have b3 : decide (1000 < (n : Int)) = false := by simp; omega
  have E : HasK w ∧ Below w.heap.size w w := ⟨hK, Below.refl _ _⟩
  go_enter Tryd.func6, Tryd.ntmps6
  go_wp2_with fail
  have hk := E.1
  refine (awake_any _ hk).mono ?_
  rintro e wq ⟨rfl, hbq⟩
  replace E : HasK wq ∧ Below w.heap.size w wq := ⟨E.1.below E.1.lt hbq, E.2.trans (hbq.mono E.2.size)⟩
  clear hk hbq
  go_wp2_with fail
  refine (primes_none _ _ (by omega)).mono ?_
  rintro e wp ⟨rfl, rfl⟩
  go_wp2_with fail
  refine (root2_any n hn2 _).mono ?_
  rintro e wr ⟨rfl, hbr⟩
  replace E : HasK wr ∧ Below w.heap.size w wr := ⟨E.1.below E.1.lt hbr, E.2.trans (hbr.mono E.2.size)⟩
  clear hbr
  go_wp2_with fail
  have hrf := refRoot2 n hn2 wr
  refine hrf.mono ?_
  rintro e ws ⟨rfl, hbs⟩
  replace E : HasK ws ∧ Below w.heap.size w ws := ⟨E.1.below E.1.lt hbs, E.2.trans (hbs.mono E.2.size)⟩
  clear hbs hrf
  go_wp2
  go_ret
  exact ⟨by first | rfl | simp, E.2⟩
set_option maxHeartbeats 1000000 in
theorem roots_mid3 (n : Nat) (hn : 100 < n) (hn2 : n ≤ 1000) (w : World) (hK : HasK w) :
    Calls Tryd.prog 6 #[.int .i64 n, .int .i64 3] w fun e w' => e = .returned (.bool true) ∧ Below w.heap.size w w' := by
  have b1 : decide ((n : Int) < 0) = false := by simp
  have b2 : decide (100 < (n : Int)) = true := by simp; omega
  have b3 : decide (1000 < (n : Int)) = false := by simp; omega
  have E : HasK w ∧ Below w.heap.size w w := ⟨hK, Below.refl _ _⟩
  go_enter Tryd.func6, Tryd.ntmps6
  go_wp2_with fail
  have hk := E.1
  refine (awake_any _ hk).mono ?_
  rintro e wq ⟨rfl, hbq⟩
  replace E : HasK wq ∧ Below w.heap.size w wq := ⟨E.1.below E.1.lt hbq, E.2.trans (hbq.mono E.2.size)⟩
  clear hk hbq
  go_wp2_with fail
  refine (primes_none _ _ (by omega)).mono ?_
  rintro e wp ⟨rfl, rfl⟩
  go_wp2_with fail
  refine (root3_any n hn2 _).mono ?_
  rintro e wr ⟨rfl, hbr⟩
  replace E : HasK wr ∧ Below w.heap.size w wr := ⟨E.1.below E.1.lt hbr, E.2.trans (hbr.mono E.2.size)⟩
  clear hbr
  go_wp2_with fail
  have hrf := refRoot3 n hn2 wr
  refine hrf.mono ?_
  rintro e ws ⟨rfl, hbs⟩
  replace E : HasK ws ∧ Below w.heap.size w ws := ⟨E.1.below E.1.lt hbs, E.2.trans (hbs.mono E.2.size)⟩
  clear hbs hrf
  go_wp2
  go_ret
  exact ⟨by first | rfl | simp, E.2⟩
set_option maxHeartbeats 1000000 in
theorem roots_low2 (n : Nat) (hn : n ≤ 100) (w : World) (hK : HasK w) :
    Calls Tryd.prog 6 #[.int .i64 n, .int .i64 2] w fun e w' => e = .returned (.bool true) ∧ Below w.heap.size w w' := by
  have b1 : decide ((n : Int) < 0) = false := by simp
  have b2 : decide (100 < (n : Int)) = false := by simp; omega
  have b3 : decide (1000 < (n : Int)) = false := by simp; omega
  have E : HasK w ∧ Below w.heap.size w w := ⟨hK, Below.refl _ _⟩
  go_enter Tryd.func6, Tryd.ntmps6
  go_wp2_with fail
  have hk := E.1
  refine (awake_any _ hk).mono ?_
  rintro e wq ⟨rfl, hbq⟩
  replace E : HasK wq ∧ Below w.heap.size w wq := ⟨E.1.below E.1.lt hbq, E.2.trans (hbq.mono E.2.size)⟩
  clear hk hbq
  go_wp2_with fail
  refine (primes_any n hn _).mono ?_
  rintro e wp ⟨a, cap, rfl, hil, hbp⟩
  replace E : HasK wp ∧ Below w.heap.size w wp := ⟨E.1.below E.1.lt hbp, E.2.trans (hbp.mono E.2.size)⟩
  have HIL := Lib.hid hil
  clear hil hbp
  go_wp2_with fail
  refine (refPrimes_any n hn _).mono ?_
  rintro e wt ⟨a2, cap2, rfl, hil2, hbt⟩
  replace E : HasK wt ∧ Below w.heap.size w wt := ⟨E.1.below E.1.lt hbt, E.2.trans (hbt.mono E.2.size)⟩
  have HIL2 := Lib.hid hil2
  have HIL1 := Lib.hid (HIL.out.below hbt)
  clear hil2 HIL hbt
  have hll := primesL_length n hn
  have HLL := Lib.hid hll
  clear hll
  go_wp2
  go_loopw [7] (fun i wr => ∃ k : Nat, k ≤ n ∧ i = .int .i64 k ∧ (HasK wr ∧ Below w.heap.size w wr) ∧ IsList wr a2 (primesL n) ∧ IsList wr a (primesL n)) (fun i _ => n - (intOf i).toNat)
  case atStart => exact ⟨0, by omega, rfl, E, HIL2.out, HIL1.out⟩
  case round =>
    clear E HIL2 HIL1 hK
    obtain ⟨k, hk, rfl, E, il2, il1⟩ := hrel
    have HIL2 := Lib.hid il2
    have HIL1 := Lib.hid il1
    clear il1 il2
    have t2 : ((n : Int) != (n : Int)) = false := by simp
    by_cases hkn : k < n
    · obtain ⟨g, _, rfl, hc1⟩ := HIL1.out (by intro h; have := HLL.out; rw [h] at this; simp at this; omega)
      obtain ⟨g2, _, rfl, hc2⟩ := HIL2.out (by intro h; have := HLL.out; rw [h] at this; simp at this; omega)
      have c1 := hc1 k (by have := HLL.out; omega)
      have c2 := hc2 k (by have := HLL.out; omega)
      clear hc1 hc2
      generalize (primesL n).getD k 0 = y at c1 c2
      have t1 : decide ((k : Int) < (n : Int)) = true := by simp; omega
      have t4 : ((y : Int) != (y : Int)) = false := by simp
      go_wp2
      go_quiet (fail)
      have bq : Below wr.heap.size wr (wr.drewN nq) := below_drewN (Below.refl _ _) nq
      replace E : HasK (wr.drewN nq) ∧ Below w.heap.size w (wr.drewN nq) := ⟨E.1.below E.1.lt bq, E.2.trans (bq.mono E.2.size)⟩
      have j1 := HIL1.out.below bq
      have j2 := HIL2.out.below bq
      clear HIL1 HIL2 c1 c2 bq
      generalize wr.drewN nq = wr2 at E j1 j2 ⊢
      go_wp2
      go_roundw
      case rel => exact ⟨k + 1, by omega, by go_num, E, j2, j1⟩
      case measure => simp [intOf]; omega
    · have hkn2 : k = n := by omega
      subst hkn2
      have t1 : decide ((k : Int) < (k : Int)) = false := by simp
      clear HIL1 HIL2 HLL
      go_wp2_with fail
      refine (root2_any k (by omega) _).mono ?_
      rintro e wu ⟨rfl, hbr⟩
      replace E : HasK wu ∧ Below w.heap.size w wu := ⟨E.1.below E.1.lt hbr, E.2.trans (hbr.mono E.2.size)⟩
      clear hbr
      go_wp2_with fail
      have hrf := refRoot2 k (by omega) wu
      refine hrf.mono ?_
      rintro e ws ⟨rfl, hbs⟩
      replace E : HasK ws ∧ Below w.heap.size w ws := ⟨E.1.below E.1.lt hbs, E.2.trans (hbs.mono E.2.size)⟩
      clear hbs hrf
      go_wp2
      go_ret
      exact ⟨by first | rfl | simp, E.2⟩
set_option maxHeartbeats 1000000 in
theorem roots_low3 (n : Nat) (hn : n ≤ 100) (w : World) (hK : HasK w) :
    Calls Tryd.prog 6 #[.int .i64 n, .int .i64 3] w fun e w' => e = .returned (.bool true) ∧ Below w.heap.size w w' := by
  have b1 : decide ((n : Int) < 0) = false := by simp
  have b2 : decide (100 < (n : Int)) = false := by simp; omega
  have b3 : decide (1000 < (n : Int)) = false := by simp; omega
  have E : HasK w ∧ Below w.heap.size w w := ⟨hK, Below.refl _ _⟩
  go_enter Tryd.func6, Tryd.ntmps6
  go_wp2_with fail
  have hk := E.1
  refine (awake_any _ hk).mono ?_
  rintro e wq ⟨rfl, hbq⟩
  replace E : HasK wq ∧ Below w.heap.size w wq := ⟨E.1.below E.1.lt hbq, E.2.trans (hbq.mono E.2.size)⟩
  clear hk hbq
  go_wp2_with fail
  refine (primes_any n hn _).mono ?_
  rintro e wp ⟨a, cap, rfl, hil, hbp⟩
  replace E : HasK wp ∧ Below w.heap.size w wp := ⟨E.1.below E.1.lt hbp, E.2.trans (hbp.mono E.2.size)⟩
  have HIL := Lib.hid hil
  clear hil hbp
  go_wp2_with fail
  refine (refPrimes_any n hn _).mono ?_
  rintro e wt ⟨a2, cap2, rfl, hil2, hbt⟩
  replace E : HasK wt ∧ Below w.heap.size w wt := ⟨E.1.below E.1.lt hbt, E.2.trans (hbt.mono E.2.size)⟩
  have HIL2 := Lib.hid hil2
  have HIL1 := Lib.hid (HIL.out.below hbt)
  clear hil2 HIL hbt
  have hll := primesL_length n hn
  have HLL := Lib.hid hll
  clear hll
  go_wp2
  go_loopw [7] (fun i wr => ∃ k : Nat, k ≤ n ∧ i = .int .i64 k ∧ (HasK wr ∧ Below w.heap.size w wr) ∧ IsList wr a2 (primesL n) ∧ IsList wr a (primesL n)) (fun i _ => n - (intOf i).toNat)
  case atStart => exact ⟨0, by omega, rfl, E, HIL2.out, HIL1.out⟩
  case round =>
    clear E HIL2 HIL1 hK
    obtain ⟨k, hk, rfl, E, il2, il1⟩ := hrel
    have HIL2 := Lib.hid il2
    have HIL1 := Lib.hid il1
    clear il1 il2
    have t2 : ((n : Int) != (n : Int)) = false := by simp
    by_cases hkn : k < n
    · obtain ⟨g, _, rfl, hc1⟩ := HIL1.out (by intro h; have := HLL.out; rw [h] at this; simp at this; omega)
      obtain ⟨g2, _, rfl, hc2⟩ := HIL2.out (by intro h; have := HLL.out; rw [h] at this; simp at this; omega)
      have c1 := hc1 k (by have := HLL.out; omega)
      have c2 := hc2 k (by have := HLL.out; omega)
      clear hc1 hc2
      generalize (primesL n).getD k 0 = y at c1 c2
      have t1 : decide ((k : Int) < (n : Int)) = true := by simp; omega
      have t4 : ((y : Int) != (y : Int)) = false := by simp
      go_wp2
      go_quiet (fail)
      have bq : Below wr.heap.size wr (wr.drewN nq) := below_drewN (Below.refl _ _) nq
      replace E : HasK (wr.drewN nq) ∧ Below w.heap.size w (wr.drewN nq) := ⟨E.1.below E.1.lt bq, E.2.trans (bq.mono E.2.size)⟩
      have j1 := HIL1.out.below bq
      have j2 := HIL2.out.below bq
      clear HIL1 HIL2 c1 c2 bq
      generalize wr.drewN nq = wr2 at E j1 j2 ⊢
      go_wp2
      go_roundw
      case rel => exact ⟨k + 1, by omega, by go_num, E, j2, j1⟩
      case measure => simp [intOf]; omega
    · have hkn2 : k = n := by omega
      subst hkn2
      have t1 : decide ((k : Int) < (k : Int)) = false := by simp
      clear HIL1 HIL2 HLL
      go_wp2_with fail
      refine (root3_any k (by omega) _).mono ?_
      rintro e wu ⟨rfl, hbr⟩
      replace E : HasK wu ∧ Below w.heap.size w wu := ⟨E.1.below E.1.lt hbr, E.2.trans (hbr.mono E.2.size)⟩
      clear hbr
      go_wp2_with fail
      have hrf := refRoot3 k (by omega) wu
      refine hrf.mono ?_
      rintro e ws ⟨rfl, hbs⟩
      replace E : HasK ws ∧ Below w.heap.size w ws := ⟨E.1.below E.1.lt hbs, E.2.trans (hbs.mono E.2.size)⟩
      clear hbs hrf
      go_wp2
      go_ret
      exact ⟨by first | rfl | simp, E.2⟩
set_option maxHeartbeats 1000000 in
theorem roots_lownone (n : Nat) (p : Int) (hn : n ≤ 100) (hp2 : p ≠ 2) (hp3 : p ≠ 3) (w : World) (hK : HasK w) :
    Calls Tryd.prog 6 #[.int .i64 n, .int .i64 p] w fun e w' => e = .returned (.bool true) ∧ Below w.heap.size w w' := by
  have b1 : decide ((n : Int) < 0) = false := by simp
  have b2 : decide (100 < (n : Int)) = false := by simp; omega
  have b3 : decide (1000 < (n : Int)) = false := by simp; omega
  have b4 : (p != 2) = true := by simp; omega
  have b5 : (p != 3) = true := by simp; omega
  have E : HasK w ∧ Below w.heap.size w w := ⟨hK, Below.refl _ _⟩
  go_enter Tryd.func6, Tryd.ntmps6
  go_wp2_with fail
  have hk := E.1
  refine (awake_any _ hk).mono ?_
  rintro e wq ⟨rfl, hbq⟩
  replace E : HasK wq ∧ Below w.heap.size w wq := ⟨E.1.below E.1.lt hbq, E.2.trans (hbq.mono E.2.size)⟩
  clear hk hbq
  go_wp2_with fail
  refine (primes_any n hn _).mono ?_
  rintro e wp ⟨a, cap, rfl, hil, hbp⟩
  replace E : HasK wp ∧ Below w.heap.size w wp := ⟨E.1.below E.1.lt hbp, E.2.trans (hbp.mono E.2.size)⟩
  have HIL := Lib.hid hil
  clear hil hbp
  go_wp2_with fail
  refine (refPrimes_any n hn _).mono ?_
  rintro e wt ⟨a2, cap2, rfl, hil2, hbt⟩
  replace E : HasK wt ∧ Below w.heap.size w wt := ⟨E.1.below E.1.lt hbt, E.2.trans (hbt.mono E.2.size)⟩
  have HIL2 := Lib.hid hil2
  have HIL1 := Lib.hid (HIL.out.below hbt)
  clear hil2 HIL hbt
  have hll := primesL_length n hn
  have HLL := Lib.hid hll
  clear hll
  go_wp2
  go_loopw [7] (fun i wr => ∃ k : Nat, k ≤ n ∧ i = .int .i64 k ∧ (HasK wr ∧ Below w.heap.size w wr) ∧ IsList wr a2 (primesL n) ∧ IsList wr a (primesL n)) (fun i _ => n - (intOf i).toNat)
  case atStart => exact ⟨0, by omega, rfl, E, HIL2.out, HIL1.out⟩
  case round =>
    clear E HIL2 HIL1 hK
    obtain ⟨k, hk, rfl, E, il2, il1⟩ := hrel
    have HIL2 := Lib.hid il2
    have HIL1 := Lib.hid il1
    clear il1 il2
    have t2 : ((n : Int) != (n : Int)) = false := by simp
    by_cases hkn : k < n
    · obtain ⟨g, _, rfl, hc1⟩ := HIL1.out (by intro h; have := HLL.out; rw [h] at this; simp at this; omega)
      obtain ⟨g2, _, rfl, hc2⟩ := HIL2.out (by intro h; have := HLL.out; rw [h] at this; simp at this; omega)
      have c1 := hc1 k (by have := HLL.out; omega)
      have c2 := hc2 k (by have := HLL.out; omega)
      clear hc1 hc2
      generalize (primesL n).getD k 0 = y at c1 c2
      have t1 : decide ((k : Int) < (n : Int)) = true := by simp; omega
      have t4 : ((y : Int) != (y : Int)) = false := by simp
      go_wp2
      go_quiet (fail)
      have bq : Below wr.heap.size wr (wr.drewN nq) := below_drewN (Below.refl _ _) nq
      replace E : HasK (wr.drewN nq) ∧ Below w.heap.size w (wr.drewN nq) := ⟨E.1.below E.1.lt bq, E.2.trans (bq.mono E.2.size)⟩
      have j1 := HIL1.out.below bq
      have j2 := HIL2.out.below bq
      clear HIL1 HIL2 c1 c2 bq
      generalize wr.drewN nq = wr2 at E j1 j2 ⊢
      go_wp2
      go_roundw
      case rel => exact ⟨k + 1, by omega, by go_num, E, j2, j1⟩
      case measure => simp [intOf]; omega
    · have hkn2 : k = n := by omega
      subst hkn2
      have t1 : decide ((k : Int) < (k : Int)) = false := by simp
      clear HIL1 HIL2 HLL
      go_wp2_with fail
      refine (root_none (k : Int) p (Or.inr (Or.inr ⟨hp2, hp3⟩)) _).mono ?_
      rintro e wu ⟨rfl, hbr⟩
      replace E : HasK wu ∧ Below w.heap.size w wu := ⟨E.1.below E.1.lt hbr, E.2.trans (hbr.mono E.2.size)⟩
      clear hbr
      go_wp2
      go_ret
      exact ⟨by first | rfl | simp, E.2⟩
theorem rootsLaw_any (n p : Int) (w : World) (hK : HasK w) :
    Calls Tryd.prog 6 #[.int .i64 n, .int .i64 p] w fun e w' => e = .returned (.bool true) ∧ Below w.heap.size w w' := by
  by_cases h1 : n < 0
  · exact roots_neg n p h1 w hK
  obtain ⟨m, rfl⟩ := Int.eq_ofNat_of_zero_le (Int.not_lt.mp h1)
  by_cases h2 : 1000 < m
  · exact roots_over m p (by omega) w hK
  by_cases p2 : p = 2
  · subst p2
    by_cases h3 : m ≤ 100
    · exact roots_low2 m h3 w hK
    · exact roots_mid2 m (by omega) (by omega) w hK
  by_cases p3 : p = 3
  · subst p3
    by_cases h3 : m ≤ 100
    · exact roots_low3 m h3 w hK
    · exact roots_mid3 m (by omega) (by omega) w hK
  by_cases h3 : m ≤ 100
  · exact roots_lownone m p h3 p2 p3 w hK
  · exact roots_midnone m p (by omega) (by omega) p2 p3 w hK
end Go.Proofs.YtpkmhdnpnbkhiaaDoor
