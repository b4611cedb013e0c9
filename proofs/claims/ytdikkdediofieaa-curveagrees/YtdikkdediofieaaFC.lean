/- Inverses of numbers below 2^255 - 19. -/
import Derived.Test.YtdikkdediofieaaFB
import Derived.Test.YtdikkdediofieaaEO
namespace Go.Proofs.Ytdikkdediofieaa
open Go.RowKit
/-- the exponent of k steps -/
def expF : Nat → Nat
  | 0 => 0
  | k + 1 => (if k ≠ 2 ∧ k ≠ 4 then 2 ^ k else 0) + expF k
theorem expF_all : expF 255 + 2 = 57896044618658097711785492504343953926634992332820282019728792003956564819949 := by decide +kernel
theorem fmul_comm (a b : Nat) : fmul a b = fmul b a := by unfold fmul; rw [Nat.mul_comm]
theorem fmul_assoc (a b c : Nat) : fmul a (fmul b c) = fmul (fmul a b) c := by
  unfold fmul
  rw [Nat.mul_mod, Nat.mod_mod, ← Nat.mul_mod, Nat.mul_mod (a * b % 57896044618658097711785492504343953926634992332820282019728792003956564819949), Nat.mod_mod, ← Nat.mul_mod, Nat.mul_assoc]
theorem fmul_one (a : Nat) (h : a < 57896044618658097711785492504343953926634992332820282019728792003956564819949) : fmul a 1 = a := by unfold fmul; rw [Nat.mul_one]; exact Nat.mod_eq_of_lt h
theorem pow_mod_mul (y z n p : Nat) : (y % p) ^ n * z % p = y ^ n * z % p := by rw [Nat.mul_mod, ← Nat.pow_mod, ← Nat.mul_mod]
def twos : Nat → Nat
  | 0 => 1
  | k + 1 => 2 * twos k
theorem twos_eq : ∀ k, twos k = 2 ^ k
  | 0 => rfl
  | k + 1 => by rw [twos, twos_eq k, Nat.pow_succ, Nat.mul_comm]
theorem invF_eq (x : Nat) : ∀ (k o : Nat), o < 57896044618658097711785492504343953926634992332820282019728792003956564819949 → invF x k o = o ^ twos k * x ^ expF k % 57896044618658097711785492504343953926634992332820282019728792003956564819949
  | 0, o, h => by
    show o = o ^ 1 * x ^ 0 % 57896044618658097711785492504343953926634992332820282019728792003956564819949
    rw [Nat.pow_one, Nat.pow_zero, Nat.mul_one, Nat.mod_eq_of_lt h]
  | k + 1, o, _ => by
    have e : ∀ b, (o * o % 57896044618658097711785492504343953926634992332820282019728792003956564819949 * x ^ b % 57896044618658097711785492504343953926634992332820282019728792003956564819949) ^ twos k * x ^ expF k % 57896044618658097711785492504343953926634992332820282019728792003956564819949 = o ^ twos (k + 1) * x ^ (b * twos k + expF k) % 57896044618658097711785492504343953926634992332820282019728792003956564819949 := fun b => by
      rw [pow_mod_mul, Nat.mul_pow, Nat.mul_assoc, pow_mod_mul, Nat.pow_add, Nat.pow_mul x, twos, ← Nat.pow_two, ← Nat.pow_mul]
    rw [invF_succ]
    split
    · rename_i hk
      rw [invF_eq x k _ (fmul_lt _ _)]
      have h := e 1
      rw [Nat.pow_one, Nat.one_mul] at h
      simp only [expF, if_pos hk]
      rw [← twos_eq]
      exact h
    · rename_i hk
      rw [invF_eq x k _ (fmul_lt _ _)]
      have h := e 0
      rw [Nat.pow_zero, Nat.mul_one, Nat.mod_mod, Nat.zero_mul] at h
      simp only [expF, if_neg hk]
      exact h
theorem finv_pow : ∃ e, e + 2 = 57896044618658097711785492504343953926634992332820282019728792003956564819949 ∧ ∀ x, finv x = x ^ e % 57896044618658097711785492504343953926634992332820282019728792003956564819949 := by
  refine ⟨expF 255, expF_all, fun x => ?_⟩
  have h := invF_eq x 255 1 (by omega)
  rw [Nat.one_pow, Nat.one_mul] at h
  exact h
theorem fermat_e {p a e : Nat} (h : Prm p) (he : e + 2 = p) (ha : ¬ p ∣ a) : a ^ (e + 1) % p = 1 := by
  have hf := h.fermat ha
  rw [show p - 1 = e + 1 from by omega] at hf
  exact hf
theorem not_dvd_P {x : Nat} (h : x < 57896044618658097711785492504343953926634992332820282019728792003956564819949) (h0 : x ≠ 0) : ¬ 57896044618658097711785492504343953926634992332820282019728792003956564819949 ∣ x := fun hd => by
  have := Nat.le_of_dvd (by omega) hd
  omega
theorem fmul_finv (x : Nat) (h : x < 57896044618658097711785492504343953926634992332820282019728792003956564819949) (h0 : x ≠ 0) : fmul x (finv x) = 1 := by
  obtain ⟨e, he, hf⟩ := finv_pow
  have h1 := fermat_e prmP he (not_dvd_P h h0)
  rw [Nat.pow_succ] at h1
  unfold fmul
  rw [hf x, Nat.mul_mod, Nat.mod_mod, ← Nat.mul_mod, Nat.mul_comm]
  exact h1
theorem finv_ne (x : Nat) (h : x < 57896044618658097711785492504343953926634992332820282019728792003956564819949) (h0 : x ≠ 0) : finv x ≠ 0 := fun hz => by
  have := fmul_finv x h h0
  rw [hz, fmul_zero] at this
  cases this
theorem finv_finv (x : Nat) (h : x < 57896044618658097711785492504343953926634992332820282019728792003956564819949) : finv (finv x) = x := by
  by_cases h0 : x = 0
  · subst h0; rw [finv_zero, finv_zero]
  · have h1 := fmul_finv x h h0
    have h2 := fmul_finv (finv x) (finv_lt x) (finv_ne x h h0)
    have e : fmul x (fmul (finv x) (finv (finv x))) = fmul (fmul x (finv x)) (finv (finv x)) := fmul_assoc _ _ _
    rw [h1, h2, fmul_one x h, fmul_comm 1, fmul_one _ (finv_lt _)] at e
    exact e.symm
theorem placeN_lowB (n : Nat) (h : n < 57896044618658097711785492504343953926634992332820282019728792003956564819949) : placeN (lowB n 32) = n := by
  unfold placeN
  have e : (256 : Nat) ^ 32 = 115792089237316195423570985008687907853269984665640564039457584007913129639936 := by decide
  rw [nb_lowB, e, Nat.mod_eq_of_lt (a := n) (by omega), Nat.mod_eq_of_lt (a := n) (by omega), Nat.mod_eq_of_lt h]
def oneK : List UInt8 := 1 :: List.replicate 31 0
theorem place_one : placeN oneK = 1 := by decide +kernel
theorem lowB_one : lowB 1 32 = oneK := by decide +kernel
theorem mulK_comm (a b : List UInt8) : mulK a b = mulK b a := by unfold mulK; rw [fmul_comm]
theorem mulK_assoc (a b c : List UInt8) : mulK a (mulK b c) = mulK (mulK a b) c := by
  unfold mulK
  rw [placeN_lowB _ (fmul_lt _ _), placeN_lowB _ (fmul_lt _ _), fmul_assoc]
theorem mulK_one (a : List UInt8) : mulK a oneK = lowB (placeN a) 32 := by
  unfold mulK
  rw [place_one, fmul_one _ (placeN_lt a)]
theorem lowB_ne (n : Nat) (h : n < 57896044618658097711785492504343953926634992332820282019728792003956564819949) (h0 : n ≠ 0) : lowB n 32 ≠ zeroK := fun he => by
  have h1 := placeN_lowB n h
  rw [he, place_zero] at h1
  exact h0 h1.symm
theorem mulK_inv (a : List UInt8) (h : placeN a ≠ 0) : mulK a (invK a) = oneK := by
  unfold mulK invK
  rw [placeN_lowB _ (finv_lt _), fmul_finv _ (placeN_lt a) h, lowB_one]
theorem invK_zero (a : List UInt8) (h : placeN a = 0) : invK a = zeroK := by unfold invK; rw [h, finv_zero, lowB_zero]
theorem invK_invK (a : List UInt8) : invK (invK a) = mulK a oneK := by
  rw [mulK_one]
  unfold invK
  rw [placeN_lowB _ (finv_lt _), finv_finv _ (placeN_lt a)]
end Go.Proofs.Ytdikkdediofieaa
