/- Primes found by division, as plain functions. No program is run here. -/
import Derived.Test.YtolipnjlbdbofaaDoorA
namespace Go.Proofs.YtolipnjlbdbofaaDoor
/-- is a number divided by one of these? -/
def divB (n : Nat) (l : List Nat) : Bool := l.any fun d => n % d == 0
def pstep (l : List Nat) (x : Nat) : List Nat := if divB x l then l else l ++ [x]
/-- the primes found among the k numbers from 2 on -/
def prF : Nat → List Nat
  | 0 => []
  | k + 1 => pstep (prF k) (k + 2)
/-- the first m primes -/
def primesL (m : Nat) : List Nat := (prF 540).take m
theorem pr540 : (prF 540).length = 100 := by decide +kernel
theorem prF_succ (k : Nat) : prF (k + 1) = if divB (k + 2) (prF k) then prF k else prF k ++ [k + 2] := rfl
theorem prF_pre (k j : Nat) : ∃ z, prF (k + j) = prF k ++ z ∧ ∀ d ∈ z, k + 2 ≤ d ∧ d < k + j + 2 := by
  induction j with
  | zero => exact ⟨[], by simp, by simp⟩
  | succ j ih =>
    obtain ⟨z, h1, h2⟩ := ih
    show ∃ z, prF ((k + j) + 1) = _ ∧ _
    rw [prF_succ, h1]
    split
    · exact ⟨z, rfl, fun d hd => by have := h2 d hd; omega⟩
    · refine ⟨z ++ [k + j + 2], by simp, fun d hd => ?_⟩
      rw [List.mem_append] at hd
      rcases hd with hd | hd
      · have := h2 d hd; omega
      · simp at hd; omega
theorem prF_bounds (k : Nat) : ∀ d ∈ prF k, 2 ≤ d ∧ d < k + 2 := by
  obtain ⟨z, h1, h2⟩ := prF_pre 0 k
  intro d hd
  have e : prF k = z := by simpa [prF] using h1
  rw [e] at hd
  have := h2 d hd
  omega
theorem prF_le (k : Nat) (h : (prF k).length < 100) : k < 540 := by
  rcases Nat.lt_or_ge k 540 with hk | hk
  · exact hk
  · obtain ⟨z, h1, _⟩ := prF_pre 540 (k - 540)
    rw [show 540 + (k - 540) = k from by omega] at h1
    rw [h1, List.length_append, pr540] at h
    omega
theorem prF_take (k : Nat) (hk : k ≤ 540) : prF k = primesL (prF k).length := by
  obtain ⟨z, h1, _⟩ := prF_pre k (540 - k)
  rw [show k + (540 - k) = 540 from by omega] at h1
  unfold primesL
  rw [h1, List.take_left]
theorem primesL_length (m : Nat) (h : m ≤ 100) : (primesL m).length = m := by
  unfold primesL; rw [List.length_take, pr540]; omega
theorem prF_len_le (k : Nat) (hk : k ≤ 540) : (prF k).length ≤ 100 := by
  obtain ⟨z, h1, _⟩ := prF_pre k (540 - k)
  rw [show k + (540 - k) = 540 from by omega] at h1
  have := congrArg List.length h1
  rw [pr540, List.length_append] at this
  omega
theorem primesL_get (m i : Nat) (hi : i < m) : (primesL m).getD i 0 = (prF 540).getD i 0 := by
  unfold primesL
  simp only [List.getD_eq_getElem?_getD]
  rw [List.getElem?_take_of_lt hi]
/-- what comes behind the primes found so far is no less than the next number -/
theorem next_ge (k m i : Nat) (hk : k ≤ 540) (hm : m ≤ 100) (hi : i < m) (hl : (prF k).length ≤ i) : k + 2 ≤ (primesL m).getD i 0 := by
  rw [primesL_get m i hi]
  obtain ⟨z, h1, h2⟩ := prF_pre k (540 - k)
  rw [show k + (540 - k) = 540 from by omega] at h1
  have hlen := congrArg List.length h1
  rw [pr540, List.length_append] at hlen
  rw [h1, List.getD_eq_getElem?_getD, List.getElem?_append_right hl, List.getElem?_eq_getElem (by omega)]
  exact (h2 _ (List.getElem_mem _)).1
theorem next_is (k m : Nat) (hk : k < 540) (hl : (prF k).length < m) (hd : divB (k + 2) (prF k) = false) : (primesL m).getD (prF k).length 0 = k + 2 := by
  rw [primesL_get m _ hl]
  obtain ⟨z, h1, _⟩ := prF_pre (k + 1) (540 - (k + 1))
  rw [show k + 1 + (540 - (k + 1)) = 540 from by omega, prF_succ k, hd] at h1
  rw [h1]
  simp [List.getD_eq_getElem?_getD]
theorem next_not (k m : Nat) (hk : k < 540) (hm : m ≤ 100) (hl : (prF k).length < m) (hd : divB (k + 2) (prF k) = true) : k + 2 < (primesL m).getD (prF k).length 0 := by
  have h1 : prF (k + 1) = prF k := by rw [prF_succ, hd]; rfl
  have := next_ge (k + 1) m (prF k).length (by omega) hm hl (by rw [h1]; exact Nat.le_refl _)
  omega
theorem prev_is (k m i : Nat) (hk : k ≤ 540) (hi : i < (prF k).length) (hm : i < m) : (primesL m).getD i 0 = (prF k).getD i 0 := by
  rw [primesL_get m i hm]
  obtain ⟨z, h1, _⟩ := prF_pre k (540 - k)
  rw [show k + (540 - k) = 540 from by omega] at h1
  rw [h1, List.getD_eq_getElem?_getD, List.getD_eq_getElem?_getD, List.getElem?_append_left hi]
theorem primesL_bounds (m i : Nat) (hm : m ≤ 100) (hi : i < m) : 2 ≤ (primesL m).getD i 0 ∧ (primesL m).getD i 0 < 542 := by
  have hl := primesL_length m hm
  rw [primesL_get m i hi, List.getD_eq_getElem?_getD, List.getElem?_eq_getElem (by rw [pr540]; omega)]
  exact prF_bounds 540 _ (List.getElem_mem _)
/-- is x divided by one of the j numbers from 2 on? -/
def rdF (x : Nat) : Nat → Bool
  | 0 => false
  | j + 1 => rdF x j || x % (j + 2) == 0
def okAt (x : Nat) (l : List Nat) : Bool := (List.range 23).all fun j => !(decide (x < (j + 2) * (j + 2)) && (j == 0 || decide ((j + 1) * (j + 1) ≤ x))) || (rdF x j == divB x l)
def passes : Nat → Nat → List Nat → Bool
  | 0, _, _ => true
  | f + 1, k, l => okAt (k + 2) l && passes f (k + 1) (pstep l (k + 2))
theorem passes540 : passes 540 0 [] = true := by decide +kernel
theorem passes_at (f k : Nat) (h : passes f k (prF k) = true) : ∀ i, i < f → okAt (k + i + 2) (prF (k + i)) = true := by
  induction f generalizing k with
  | zero => intro i hi; omega
  | succ f ih =>
    intro i hi
    simp only [passes, Bool.and_eq_true] at h
    cases i with
    | zero => exact h.1
    | succ i =>
      have := ih (k + 1) h.2 i (by omega)
      rw [show k + (i + 1) = k + 1 + i from by omega]
      exact this
/-- dividing by all numbers up to the root tells what dividing by the primes below does -/
theorem rdF_is (k j : Nat) (hk : k < 540) (h1 : k + 2 < (j + 2) * (j + 2)) (h2 : j = 0 ∨ (j + 1) * (j + 1) ≤ k + 2) : rdF (k + 2) j = divB (k + 2) (prF k) := by
  have h := passes_at 540 0 passes540 k hk
  rw [Nat.zero_add] at h
  have hj : j < 23 := by
    rcases Nat.lt_or_ge j 23 with hj | hj
    · exact hj
    · rcases h2 with h2 | h2
      · omega
      · have : 24 * 24 ≤ (j + 1) * (j + 1) := Nat.mul_le_mul (by omega) (by omega)
        omega
  have h3 := List.all_eq_true.1 h j (List.mem_range.2 hj)
  have e1 : decide (k + 2 < (j + 2) * (j + 2)) = true := by simpa using h1
  have e2 : (j == 0 || decide ((j + 1) * (j + 1) ≤ k + 2)) = true := by
    rcases h2 with h2 | h2
    · simp [h2]
    · simp [h2]
  rw [e1, e2] at h3
  simpa using h3
end Go.Proofs.YtolipnjlbdbofaaDoor
