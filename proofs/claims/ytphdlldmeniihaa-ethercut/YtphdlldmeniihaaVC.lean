/- ether.word, readTag, content: walked. -/
import Derived.Test.YtphdlldmeniihaaVB
import Derived.Test.YtphdlldmeniihaaJ
import Derived.Deep.DeepCutAuto
import Derived.Deep.RegionWith
namespace Go.Proofs.Ytphdlldmeniihaa
open Go.RowKit
/-- the number of two bytes of a text -/
def wd (s : ByteArray) (i : Nat) : Nat := (bAt s i).toNat * 256 + (bAt s (i + 1)).toNat
theorem wd_lt (s : ByteArray) (i : Nat) : wd s i < 65536 := by
  have h1 := UInt8.toNat_lt (bAt s i)
  have h2 := UInt8.toNat_lt (bAt s (i + 1))
  unfold wd; omega
theorem numP_two (s : ByteArray) (i : Nat) : numP (s.extract i (i + 2)).data.toList 2 = wd s i := by
  have h0 : (s.extract i (i + 2)).data.toList.getD 0 0 = bAt s i := bAt_extract s i (i + 2) 0 (by omega)
  have h1 : (s.extract i (i + 2)).data.toList.getD 1 0 = bAt s (i + 1) := bAt_extract s i (i + 2) 1 (by omega)
  show (0 * 256 + ((s.extract i (i + 2)).data.toList.getD 0 0).toNat) * 256 + ((s.extract i (i + 2)).data.toList.getD 1 0).toNat = wd s i
  rw [h0, h1]
  unfold wd
  omega
theorem word_any (s : ByteArray) (i : Nat) (h : i + 2 ≤ s.size) (hi : i ≤ 1000) (w : World) : Calls Try.prog 20 #[.string s, .int .i64 (i : Int)] w fun e w' => e = .returned (.int .i64 (wd s i : Int)) ∧ w' = w := by
  have hsz : (s.extract i (i + 2)).size = 2 := by rw [ByteArray.size_extract]; omega
  have hc := fun W => numberIn_any (s.extract i (i + 2)) (by omega) W
  rw [hsz, numP_two] at hc
  have HC := Lib.hid hc
  clear hc
  have hz : IntKind.i64.wrap ((i : Int) + 2) = ((i + 2 : Nat) : Int) := by rw [IntWalk.i64_in _ (by omega)]; omega
  have h2 : ((i + 2 : Nat) : Int) ≤ (s.size : Int) := by omega
  generalize wd s i = X at HC ⊢
  go_enter Try.func20, Try.ntmps20
  go_wp2_with (go_at_call 23; refine (HC.out _).mono ?_; rintro e w1 ⟨rfl, rfl⟩)
  go_ret
  exact ⟨rfl, rfl⟩
theorem i64_and_small (a b : Nat) (ha : a < 9223372036854775808) (hb : b < 9223372036854775808) : bits .and .i64 (a : Int) (b : Int) = ((a &&& b : Nat) : Int) := by
  have hx : a &&& b < 2 ^ 63 := Nat.and_lt_two_pow a (by omega)
  show IntKind.i64.wrap ((BitVec.ofInt 64 (a : Int) &&& BitVec.ofInt 64 (b : Int)).toNat : Int) = _
  rw [BitVec.toNat_and, ofInt_u64 a (by omega), ofInt_u64 b (by omega), IntWalk.i64_in _ (by omega)]
theorem and_vlan (n : Nat) (h : n < 65536) : bits .and .i64 (n : Int) 4095 = ((n % 4096 : Nat) : Int) := by
  have := i64_and_small n 4095 (by omega) (by omega)
  rw [show n &&& 4095 = n % 4096 from Nat.and_two_pow_sub_one_eq_mod n 12] at this
  exact this
theorem and_mark (n : Nat) (h : n < 65536) : bits .and .i64 (n : Int) 4096 = ((n / 4096 % 2 * 4096 : Nat) : Int) := by
  have := i64_and_small n 4096 (by omega) (by omega)
  have e : n &&& 4096 = n / 4096 % 2 * 4096 := by
    apply Nat.eq_of_testBit_eq
    intro j
    rw [show (4096 : Nat) = 2 ^ 12 from rfl, Nat.testBit_and, Nat.testBit_two_pow, Nat.testBit_mul_two_pow, ← Nat.shiftRight_eq_div_pow]
    by_cases hj : j = 12
    · subst hj
      simp [Nat.testBit_eq_decide_div_mod_eq, Nat.shiftRight_eq_div_pow]
    · have h12 : ¬ 12 = j := fun e => hj e.symm
      by_cases hg : 12 ≤ j
      · obtain ⟨k, hk⟩ : ∃ k, j - 12 = k + 1 := ⟨j - 13, by omega⟩
        have : (n >>> 12 % 2).testBit (k + 1) = false := Nat.testBit_lt_two_pow (Nat.lt_of_lt_of_le (Nat.mod_lt _ (by omega)) (by have := Nat.one_le_two_pow (n := k); rw [Nat.pow_succ]; omega))
        simp [h12, hk, this]
      · simp [h12, hg]
  rw [e] at this
  exact this
theorem readTag_ok (s : ByteArray) (h : 18 ≤ s.size) (h1 : wd s 14 / 4096 % 2 = 0) (w : World) :
    Calls Try.prog 21 #[.string s] w fun e w' => e = .returned (.tuple #[.int .i64 ((wd s 14 % 4096 : Nat) : Int), .int .i64 ((wd s 14 / 8192 : Nat) : Int)]) ∧ w' = w := by
  have hc := fun W => word_any s 14 (by omega) (by omega) W
  have hl := wd_lt s 14
  generalize wd s 14 = X at hc h1 hl ⊢
  have HC := Lib.hid hc
  clear hc
  have hv := and_vlan X hl
  have hm := and_mark X hl
  rw [h1] at hm
  obtain ⟨q, hq⟩ : ∃ q, X / 8192 = q := ⟨_, rfl⟩
  have hp : (X : Int) / 8192 = (q : Int) := by omega
  rw [hq]
  generalize X % 4096 = r at hv ⊢
  clear hq h1 hl
  have t1 : (16 : Int) ≤ (s.size : Int) := by omega
  have t2 : (18 : Int) ≤ (s.size : Int) := by omega
  go_enter Try.func21, Try.ntmps21
  go_wp2_with (first
    | (go_at_call 20; refine (HC.out _).mono ?_; rintro e w1 ⟨rfl, rfl⟩)
    | (go_at_call 19; refine (demand_any _ _ _).mono ?_; rintro e w1 ⟨he, rfl⟩; first | (replace he := he.trans demanded_yes; subst he) | (replace he := he.trans demanded_no; subst he)))
  go_ret2
  exact ⟨rfl, rfl⟩
theorem readTag_short (s : ByteArray) (h : s.size < 16) (w : World) : Calls Try.prog 21 #[.string s] w fun e w' => e = thrown 2 ∧ w' = w := by
  have t1 : ¬ (16 : Int) ≤ (s.size : Int) := by omega
  go_enter Try.func21, Try.ntmps21
  go_wp2_with (first
    | (go_at_call 19; refine (demand_any _ _ _).mono ?_; rintro e w1 ⟨he, rfl⟩; first | (replace he := he.trans demanded_yes; subst he) | (replace he := he.trans demanded_no; subst he)))
  exact ⟨rfl, rfl, rfl⟩
theorem readTag_form (s : ByteArray) (h : 16 ≤ s.size) (h1 : wd s 14 / 4096 % 2 = 1) (w : World) : Calls Try.prog 21 #[.string s] w fun e w' => e = thrown 3 ∧ w' = w := by
  have hc := fun W => word_any s 14 (by omega) (by omega) W
  have hl := wd_lt s 14
  generalize wd s 14 = X at hc h1 hl
  have HC := Lib.hid hc
  clear hc
  have hm := and_mark X hl
  rw [h1] at hm
  have t1 : (16 : Int) ≤ (s.size : Int) := by omega
  clear h1 hl
  go_enter Try.func21, Try.ntmps21
  go_wp2_with (first
    | (go_at_call 20; refine (HC.out _).mono ?_; rintro e w1 ⟨rfl, rfl⟩)
    | (go_at_call 19; refine (demand_any _ _ _).mono ?_; rintro e w1 ⟨he, rfl⟩; first | (replace he := he.trans demanded_yes; subst he) | (replace he := he.trans demanded_no; subst he)))
  exact ⟨rfl, rfl, rfl⟩
theorem readTag_cut (s : ByteArray) (h : 16 ≤ s.size) (h0 : s.size < 18) (h1 : wd s 14 / 4096 % 2 = 0) (w : World) : Calls Try.prog 21 #[.string s] w fun e w' => e = thrown 2 ∧ w' = w := by
  have hc := fun W => word_any s 14 (by omega) (by omega) W
  have hl := wd_lt s 14
  generalize wd s 14 = X at hc h1 hl
  have HC := Lib.hid hc
  clear hc
  have hm := and_mark X hl
  rw [h1] at hm
  have t1 : (16 : Int) ≤ (s.size : Int) := by omega
  have t2 : decide ((18 : Int) ≤ (s.size : Int)) = false := by simp; omega
  clear h1 hl
  go_enter Try.func21, Try.ntmps21
  go_wp2_with (first
    | (go_at_call 20; refine (HC.out _).mono ?_; rintro e w1 ⟨rfl, rfl⟩)
    | (go_at_call 19; refine (demand_any _ _ _).mono ?_; rintro e w1 ⟨he, rfl⟩; first | (replace he := he.trans demanded_yes; subst he) | (replace he := he.trans demanded_no; subst he)))
  exact ⟨rfl, rfl, rfl⟩
/-- a type that is right: the text is cloned -/
theorem content_type (k : Nat) (hk : 1500 < k) (hr : rightT (k : Int) = true) (s : ByteArray) (hs : s.size ≤ 1000000) (w : World) :
    Calls Try.prog 22 #[.int .i64 (k : Int), .string s] w fun e w' => e = .returned (.tuple #[.int .i64 (k : Int), .string s]) ∧ Below w.heap.size w w' := by
  have hc := fun W => clone_any s hs W
  have HC := Lib.hid hc
  have ht := fun W => rightType_any (k : Int) W
  rw [hr] at ht
  have HT := Lib.hid ht
  clear hc ht hr
  have t1 : ¬ (k : Int) ≤ 1500 := by omega
  go_enter Try.func22, Try.ntmps22
  go_wp2_with (first
    | (go_at_call 15; refine (HT.out _).mono ?_; rintro e w1 ⟨rfl, rfl⟩)
    | (go_at_call 24; refine (HC.out _).mono ?_; rintro e w1 ⟨rfl, hb⟩)
    | (go_at_call 19; refine (demand_any _ _ _).mono ?_; rintro e w1 ⟨he, rfl⟩; first | (replace he := he.trans demanded_yes; subst he) | (replace he := he.trans demanded_no; subst he)))
  go_ret2
  exact ⟨rfl, hb⟩
/-- a type that is none -/
theorem content_form (k : Nat) (hk : 1500 < k) (hr : rightT (k : Int) = false) (s : ByteArray) (w : World) :
    Calls Try.prog 22 #[.int .i64 (k : Int), .string s] w fun e w' => e = thrown 3 ∧ w' = w := by
  have ht := fun W => rightType_any (k : Int) W
  rw [hr] at ht
  have HT := Lib.hid ht
  clear ht hr
  have t1 : ¬ (k : Int) ≤ 1500 := by omega
  go_enter Try.func22, Try.ntmps22
  go_wp2_with (first
    | (go_at_call 15; refine (HT.out _).mono ?_; rintro e w1 ⟨rfl, rfl⟩)
    | (go_at_call 19; refine (demand_any _ _ _).mono ?_; rintro e w1 ⟨he, rfl⟩; first | (replace he := he.trans demanded_yes; subst he) | (replace he := he.trans demanded_no; subst he)))
  exact ⟨rfl, rfl, rfl⟩
/-- a length that is more than there is -/
theorem content_short (k : Nat) (hk : k ≤ 1500) (s : ByteArray) (hs : s.size < k) (w : World) :
    Calls Try.prog 22 #[.int .i64 (k : Int), .string s] w fun e w' => e = thrown 2 ∧ w' = w := by
  have t1 : (k : Int) ≤ 1500 := by omega
  have t2 : ¬ (k : Int) ≤ (s.size : Int) := by omega
  go_enter Try.func22, Try.ntmps22
  go_wp2_with (first
    | (go_at_call 19; refine (demand_any _ _ _).mono ?_; rintro e w1 ⟨he, rfl⟩; first | (replace he := he.trans demanded_yes; subst he) | (replace he := he.trans demanded_no; subst he)))
  exact ⟨rfl, rfl, rfl⟩
/-- a length -/
theorem content_len (k : Nat) (hk : k ≤ 1500) (s : ByteArray) (hs : k ≤ s.size) (w : World) :
    Calls Try.prog 22 #[.int .i64 (k : Int), .string s] w fun e w' => e = .returned (.tuple #[.int .i64 0, .string (s.extract 0 k)]) ∧ Below w.heap.size w w' := by
  have hc := fun W => clone_any (s.extract 0 k) (by rw [ByteArray.size_extract]; omega) W
  have HC := Lib.hid hc
  have ht := fun W => rightType_any 0 W
  rw [show rightT 0 = true from rfl] at ht
  have HT := Lib.hid ht
  clear hc ht
  have t1 : (k : Int) ≤ 1500 := by omega
  have t2 : (k : Int) ≤ (s.size : Int) := by omega
  go_enter Try.func22, Try.ntmps22
  go_upto_region 3 with (first
    | (go_at_call 19; refine (demand_any _ _ _).mono ?_; rintro e w1 ⟨he, rfl⟩; first | (replace he := he.trans demanded_yes; subst he) | (replace he := he.trans demanded_no; subst he)))
  go_region
  go_wp2_with (first
    | (go_at_call 15; refine (HT.out _).mono ?_; rintro e w2 ⟨rfl, rfl⟩)
    | (go_at_call 24; refine (HC.out _).mono ?_; rintro e w2 ⟨rfl, hb⟩)
    | (go_at_call 19; refine (demand_any _ _ _).mono ?_; rintro e w1 ⟨he, rfl⟩; first | (replace he := he.trans demanded_yes; subst he) | (replace he := he.trans demanded_no; subst he)))
  go_ret2
  exact ⟨rfl, (Below.refl _ _).drew.trans hb⟩
end Go.Proofs.Ytphdlldmeniihaa
