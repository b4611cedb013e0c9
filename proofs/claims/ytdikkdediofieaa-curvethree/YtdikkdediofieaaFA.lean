/- Primes: Fermat's theorem, and how a prime is known by the primes of the number ahead of it. No program is run here. -/
import Derived.Test.YtdikkdediofieaaA
namespace Go.Proofs.Ytdikkdediofieaa
def Prm (p : Nat) : Prop := 2 ≤ p ∧ ∀ d, d ∣ p → d = 1 ∨ d = p
theorem Prm.euclid {p a b : Nat} (h : Prm p) (hd : p ∣ a * b) : p ∣ a ∨ p ∣ b := by
  rcases h.2 (Nat.gcd p a) (Nat.gcd_dvd_left p a) with hg | hg
  · exact Or.inr (Nat.Coprime.dvd_of_dvd_mul_left (k := p) (m := a) (n := b) hg hd)
  · exact Or.inl (by rw [← hg]; exact Nat.gcd_dvd_right p a)
theorem Prm.coprime {p a : Nat} (h : Prm p) (hd : ¬ p ∣ a) : Nat.gcd p a = 1 := by
  rcases h.2 (Nat.gcd p a) (Nat.gcd_dvd_left p a) with hg | hg
  · exact hg
  · exact absurd (by rw [← hg]; exact Nat.gcd_dvd_right p a) hd
def lprod : List Nat → Nat
  | [] => 1
  | a :: l => a * lprod l
def fct : Nat → Nat
  | 0 => 1
  | n + 1 => (n + 1) * fct n
theorem lprod_erase : ∀ (l : List Nat) (a : Nat), a ∈ l → lprod l = a * lprod (l.erase a)
  | [], a, h => by simp at h
  | b :: l, a, h => by
    by_cases hb : b = a
    · subst hb; simp [lprod]
    · have hm : a ∈ l := by
        rcases List.mem_cons.1 h with h | h
        · exact absurd h.symm hb
        · exact h
      rw [List.erase_cons_tail (by simpa using hb)]
      simp only [lprod]
      rw [lprod_erase l a hm, Nat.mul_left_comm]
theorem nodup_len : ∀ (n : Nat) (l : List Nat), l.Nodup → (∀ x ∈ l, 1 ≤ x ∧ x ≤ n) → l.length ≤ n
  | 0, l, _, h => by
    cases l with
    | nil => exact Nat.le_refl _
    | cons a l => have := h a (by simp); omega
  | n + 1, l, hn, h => by
    by_cases hm : n + 1 ∈ l
    · have := nodup_len n (l.erase (n + 1)) (hn.erase _) (fun x hx => by
        have h1 := (hn.mem_erase_iff).1 hx
        have := h x h1.2
        omega)
      rw [List.length_erase_of_mem hm] at this
      omega
    · have := nodup_len n l hn (fun x hx => by
        have h1 := h x hx
        have : x ≠ n + 1 := by rintro rfl; exact hm hx
        omega)
      omega
theorem lprod_all : ∀ (n : Nat) (l : List Nat), l.Nodup → (∀ x ∈ l, 1 ≤ x ∧ x ≤ n) → l.length = n → lprod l = fct n
  | 0, l, _, _, hl => by
    cases l with
    | nil => rfl
    | cons a l => simp at hl
  | n + 1, l, hn, h, hl => by
    have hm : n + 1 ∈ l := by
      refine Classical.byContradiction fun hm => ?_
      have := nodup_len n l hn (fun x hx => by
        have h1 := h x hx
        have : x ≠ n + 1 := by rintro rfl; exact hm hx
        omega)
      omega
    rw [lprod_erase l _ hm, lprod_all n (l.erase (n + 1)) (hn.erase _) (fun x hx => by
      have h1 := (hn.mem_erase_iff).1 hx
      have := h x h1.2
      omega) (by rw [List.length_erase_of_mem hm]; omega)]
    rfl
theorem mod_of_dvd {a b p : Nat} (hab : a ≤ b) (h : p ∣ b - a) : b % p = a % p := by
  obtain ⟨k, hk⟩ := h
  rw [show b = a + p * k from by omega, Nat.add_mul_mod_self_left]
theorem dvd_of_mod {a b p : Nat} (h : b % p = a % p) : p ∣ b - a := by
  have h1 := Nat.div_add_mod b p
  have h2 := Nat.div_add_mod a p
  refine ⟨b / p - a / p, ?_⟩
  rw [Nat.mul_sub]
  omega
theorem Prm.cancel {p a b c : Nat} (h : Prm p) (ha : ¬ p ∣ a) (he : a * b % p = a * c % p) : b % p = c % p := by
  rcases Nat.le_total b c with hbc | hbc
  · have hd := dvd_of_mod he.symm
    rw [← Nat.mul_sub] at hd
    rcases h.euclid hd with h1 | h1
    · exact absurd h1 ha
    · exact (mod_of_dvd hbc h1).symm
  · have hd := dvd_of_mod he
    rw [← Nat.mul_sub] at hd
    rcases h.euclid hd with h1 | h1
    · exact absurd h1 ha
    · exact mod_of_dvd hbc h1
theorem Prm.not_fct {p : Nat} (h : Prm p) : ∀ n, n < p → ¬ p ∣ fct n
  | 0, _, hd => by
    have := Nat.le_of_dvd (by show 0 < 1; omega) hd
    have := h.1
    have : fct 0 = 1 := rfl
    omega
  | n + 1, hn, hd => by
    rcases h.euclid hd with h1 | h1
    · have := Nat.le_of_dvd (by omega) h1
      omega
    · exact h.not_fct n (by omega) h1
theorem lprod_mod (a p : Nat) (f : Nat → Nat) : ∀ l : List Nat, lprod (l.map fun i => a * f i % p) % p = a ^ l.length * lprod (l.map f) % p
  | [] => by simp [lprod]
  | i :: l => by
    simp only [List.map_cons, lprod, List.length_cons]
    rw [Nat.mul_mod, lprod_mod a p f l, Nat.mod_mod, ← Nat.mul_mod, Nat.pow_succ]
    congr 1
    simp only [Nat.mul_assoc, Nat.mul_left_comm, Nat.mul_comm]
/-- Fermat's theorem -/
theorem Prm.fermat {p a : Nat} (h : Prm p) (ha : ¬ p ∣ a) : a ^ (p - 1) % p = 1 := by
  have h2 := h.1
  obtain ⟨n, rfl⟩ : ∃ n, p = n + 1 := ⟨p - 1, by omega⟩
  rw [Nat.add_sub_cancel]
  have hall := lprod_all n ((List.range n).map fun i => a * (i + 1) % (n + 1)) (by
    rw [List.Nodup, List.pairwise_map]
    refine List.Pairwise.imp_of_mem (fun {x y} hx hy hne he => hne ?_) List.nodup_range
    rw [List.mem_range] at hx hy
    have := h.cancel ha he
    rw [Nat.mod_eq_of_lt (by omega), Nat.mod_eq_of_lt (by omega)] at this
    omega) (fun x hx => by
    obtain ⟨i, hi, rfl⟩ := List.mem_map.1 hx
    rw [List.mem_range] at hi
    have h1 := Nat.mod_lt (a * (i + 1)) (show 0 < n + 1 by omega)
    refine ⟨?_, by omega⟩
    rcases Nat.eq_zero_or_pos (a * (i + 1) % (n + 1)) with h0 | h0
    · rcases h.euclid (Nat.dvd_of_mod_eq_zero h0) with h3 | h3
      · exact absurd h3 ha
      · have := Nat.le_of_dvd (by omega) h3
        omega
    · exact h0) (by simp)
  have hone := lprod_all n ((List.range n).map fun i => i + 1) (by
    rw [List.Nodup, List.pairwise_map]
    refine List.Pairwise.imp_of_mem (fun {x y} _ _ hne he => hne (by omega)) List.nodup_range) (fun x hx => by
    obtain ⟨i, hi, rfl⟩ := List.mem_map.1 hx
    rw [List.mem_range] at hi
    omega) (by simp)
  have hm := lprod_mod a (n + 1) (fun i => i + 1) (List.range n)
  rw [hall, hone, List.length_range] at hm
  have hc := h.cancel (a := fct n) (b := a ^ n) (c := 1) (h.not_fct n (by omega)) (by rw [Nat.mul_one, hm, Nat.mul_comm])
  rw [hc]
  exact Nat.mod_eq_of_lt (by omega)
theorem pow_mod_one {a r m k : Nat} (h : a ^ m % r = 1 % r) : a ^ (m * k) % r = 1 % r := by
  rw [Nat.pow_mul, Nat.pow_mod, h, ← Nat.pow_mod, Nat.one_pow]
/-- two exponents that make 1: so does their greatest common one -/
theorem pow_gcd (a r : Nat) (m n : Nat) : a ^ m % r = 1 % r → a ^ n % r = 1 % r → a ^ Nat.gcd m n % r = 1 % r := by
  induction m, n using Nat.gcd.induction with
  | H0 n => intro _ h; rw [Nat.gcd_zero_left]; exact h
  | H1 m n hm ih =>
    intro h1 h2
    rw [Nat.gcd_rec]
    refine ih ?_ h1
    have e : a ^ n % r = a ^ (n % m) % r := by
      conv => lhs; rw [← Nat.div_add_mod n m, Nat.pow_add, Nat.mul_mod, pow_mod_one h1, ← Nat.mul_mod, Nat.one_mul]
    rw [← e, h2]
theorem least_of (q : Nat → Prop) : ∀ n, q n → ∃ m, q m ∧ ∀ k, k < m → ¬ q k := by
  intro n
  induction n using Nat.strongRecOn with
  | ind n ih =>
    intro h
    by_cases hk : ∃ k, k < n ∧ q k
    · obtain ⟨k, hkn, hq⟩ := hk
      exact ih k hkn hq
    · exact ⟨n, h, fun k hkn hq => hk ⟨k, hkn, hq⟩⟩
/-- the least divisor is a prime -/
theorem least_prime (N : Nat) (hN : 2 ≤ N) : ∃ r, Prm r ∧ r ∣ N ∧ (r = N ∨ r * r ≤ N) := by
  obtain ⟨r, ⟨h2, hd⟩, hmin⟩ := least_of (fun d => 2 ≤ d ∧ d ∣ N) N ⟨hN, Nat.dvd_refl N⟩
  refine ⟨r, ⟨h2, fun d hdr => ?_⟩, hd, ?_⟩
  · have hr : 0 < r := by omega
    have hle := Nat.le_of_dvd hr hdr
    rcases Nat.lt_or_ge d 2 with h | h
    · have : d ≠ 0 := by rintro rfl; have := Nat.eq_zero_of_zero_dvd hdr; omega
      exact Or.inl (by omega)
    · rcases Nat.lt_or_ge d r with h' | h'
      · exact absurd ⟨h, Nat.dvd_trans hdr hd⟩ (hmin d h')
      · exact Or.inr (by omega)
  · obtain ⟨k, hk⟩ := hd
    rcases Nat.lt_or_ge k 2 with h | h
    · have : k ≠ 0 := by rintro rfl; omega
      have : k = 1 := by omega
      subst this
      exact Or.inl (by omega)
    · rcases Nat.lt_or_ge k r with h' | h'
      · exact absurd ⟨h, ⟨r, by rw [hk, Nat.mul_comm]⟩⟩ (hmin k h')
      · exact Or.inr (by rw [hk]; exact Nat.mul_le_mul_left _ h')
/-- a prime of the number ahead divides each prime divisor, less 1 -/
theorem pock_dvd {N q a r : Nat} (hq : Prm q) (hqd : q ∣ N - 1) (ha : a ^ (N - 1) % N = 1 % N) (hg : Nat.gcd (a ^ ((N - 1) / q) - 1) N = 1) (hr : Prm r) (hrN : r ∣ N) : q ∣ r - 1 := by
  refine Classical.byContradiction fun hn => ?_
  have hco : Nat.gcd q (r - 1) = 1 := hq.coprime hn
  obtain ⟨m, hm⟩ := hqd
  have hq0 : 0 < q := by have := hq.1; omega
  have hdiv : (N - 1) / q = m := by rw [hm, Nat.mul_div_cancel_left _ hq0]
  rw [hdiv] at hg
  have har : a ^ (N - 1) % r = 1 % r := by
    have h := congrArg (· % r) ha
    simp only [Nat.mod_mod_of_dvd _ hrN] at h
    exact h
  have hbq : (a ^ m) ^ q % r = 1 % r := by rw [← Nat.pow_mul, Nat.mul_comm, ← hm]; exact har
  have hr2 := hr.1
  have h1r : 1 % r = 1 := Nat.mod_eq_of_lt (by omega)
  have hnd : ¬ r ∣ a ^ m := fun hd => by
    have h0 : (a ^ m) ^ q % r = 0 := by
      obtain ⟨q', rfl⟩ : ∃ q', q = q' + 1 := ⟨q - 1, by omega⟩
      rw [Nat.pow_succ]
      exact Nat.mod_eq_zero_of_dvd (Nat.dvd_trans hd (Nat.dvd_mul_left _ _))
    rw [h0, h1r] at hbq
    cases hbq
  have hbr : (a ^ m) ^ (r - 1) % r = 1 % r := by rw [h1r]; exact hr.fermat hnd
  have h := pow_gcd (a ^ m) r q (r - 1) hbq hbr
  rw [hco, Nat.pow_one] at h
  have hd := dvd_of_mod h
  have hd2 : r ∣ Nat.gcd (a ^ m - 1) N := Nat.dvd_gcd hd hrN
  rw [hg] at hd2
  have := Nat.le_of_dvd (by omega) hd2
  omega
/-- powers by squares: k bits of n -/
def pw (N a : Nat) : Nat → Nat → Nat
  | 0, _ => 1 % N
  | k + 1, n => if n % 2 = 1 then pw N a k (n / 2) * pw N a k (n / 2) % N * a % N else pw N a k (n / 2) * pw N a k (n / 2) % N
theorem pw_eq (N a : Nat) : ∀ (k n : Nat), n < 2 ^ k → pw N a k n = a ^ n % N
  | 0, n, h => by
    have : n = 0 := by simpa using h
    subst this
    simp [pw]
  | k + 1, n, h => by
    have ih := pw_eq N a k (n / 2) (by rw [Nat.pow_succ] at h; omega)
    simp only [pw, ih]
    rw [← Nat.mul_mod, ← Nat.pow_add]
    split
    · rename_i ho
      have e : a ^ n = a ^ (n / 2 + n / 2) * a := by rw [← Nat.pow_succ]; congr 1; omega
      rw [e]
      conv => rhs; rw [Nat.mul_mod]
      rw [Nat.mul_mod, Nat.mod_mod]
    · congr 2
      omega
/-- a prime that is known by two of the number ahead -/
theorem pock2 (N q s a b : Nat) (hN : 2 ≤ N) (hq : Prm q) (hs : Prm s) (hne : q ≠ s) (hq1 : (N - 1) % q = 0) (hs1 : (N - 1) % s = 0) (hbig : N ≤ q * s * (q * s)) (k : Nat) (hk : N < 2 ^ k) (ha1 : 1 ≤ a) (hb1 : 1 ≤ b)
    (ha : pw N a k (N - 1) = 1 % N) (hb : pw N b k (N - 1) = 1 % N) (hga : Nat.gcd (pw N a k ((N - 1) / q) + (N - 1)) N = 1) (hgb : Nat.gcd (pw N b k ((N - 1) / s) + (N - 1)) N = 1) : Prm N := by
  obtain ⟨r, hr, hrN, hcase⟩ := least_prime N hN
  rcases hcase with rfl | hsq
  · exact hr
  · exfalso
    have hlt : ∀ d, (N - 1) / d < 2 ^ k := fun d => Nat.lt_of_le_of_lt (Nat.div_le_self _ _) (by omega)
    have conv : ∀ x d, 1 ≤ x → Nat.gcd (pw N x k ((N - 1) / d) + (N - 1)) N = 1 → Nat.gcd (x ^ ((N - 1) / d) - 1) N = 1 := fun x d hx hg => by
      rw [pw_eq N x k _ (hlt d)] at hg
      have hp : 1 ≤ x ^ ((N - 1) / d) := Nat.pow_pos hx
      have h1 : (x ^ ((N - 1) / d) % N + (N - 1)) % N = (x ^ ((N - 1) / d) - 1) % N := by
        have h2 : (x ^ ((N - 1) / d) - 1 + N) % N = (x ^ ((N - 1) / d) - 1) % N := Nat.add_mod_right _ _
        rw [← h2, show x ^ ((N - 1) / d) - 1 + N = x ^ ((N - 1) / d) + (N - 1) from by omega, Nat.add_mod, Nat.mod_mod, ← Nat.add_mod]
      have g : ∀ y, Nat.gcd y N = Nat.gcd (y % N) N := fun y => by rw [Nat.gcd_comm, Nat.gcd_rec]
      rw [g, ← h1, ← g]
      exact hg
    have d1 := pock_dvd hq (Nat.dvd_of_mod_eq_zero hq1) (by rw [← pw_eq N a k _ (by omega)]; exact ha) (conv a q ha1 hga) hr hrN
    have d2 := pock_dvd hs (Nat.dvd_of_mod_eq_zero hs1) (by rw [← pw_eq N b k _ (by omega)]; exact hb) (conv b s hb1 hgb) hr hrN
    have hco : Nat.Coprime q s := by
      refine hq.coprime (fun hd => ?_)
      rcases hs.2 q hd with h | h
      · have := hq.1; omega
      · exact hne h
    have hd := Nat.Coprime.mul_dvd_of_dvd_of_dvd hco d1 d2
    have hr2 := hr.1
    have hle := Nat.le_of_dvd (by omega) hd
    have hlt2 : q * s < r := by omega
    have := Nat.mul_lt_mul'' hlt2 hlt2
    omega
/-- a small prime, by trial -/
theorem small_prime (N s : Nat) (hN : 2 ≤ N) (hs : N < s * s) (h : (List.range s).all (fun d => decide (d < 2) || decide (N % d ≠ 0)) = true) : Prm N := by
  obtain ⟨r, hr, hrN, hcase⟩ := least_prime N hN
  rcases hcase with rfl | hsq
  · exact hr
  · exfalso
    have hrs : r < s := by
      rcases Nat.lt_or_ge r s with h' | h'
      · exact h'
      · have := Nat.mul_le_mul h' h'
        omega
    have h1 := List.all_eq_true.1 h r (List.mem_range.2 hrs)
    have hr2 := hr.1
    simp only [Bool.or_eq_true, decide_eq_true_eq] at h1
    rcases h1 with h1 | h1
    · omega
    · exact h1 (Nat.mod_eq_zero_of_dvd hrN)
end Go.Proofs.Ytdikkdediofieaa
