/- At the place 1 all scalars that are multiples of 4 share 0. -/
import Derived.Test.YtdikkdediofieaaFC
namespace Go.Proofs.Ytdikkdediofieaa
open Go.RowKit
theorem zero_fadd (a : Nat) (h : a < 57896044618658097711785492504343953926634992332820282019728792003956564819949) : fadd 0 a = a := by unfold fadd; rw [Nat.zero_add]; exact Nat.mod_eq_of_lt h
theorem neg_sq (k : Nat) (h : k < 57896044618658097711785492504343953926634992332820282019728792003956564819949) : fmul (fsub 0 k) (fsub 0 k) = fmul k k := by
  by_cases h0 : k = 0
  · subst h0; rfl
  · have e1 : fsub 0 k = 57896044618658097711785492504343953926634992332820282019728792003956564819949 - k := by unfold fsub; rw [Nat.zero_add]; exact Nat.mod_eq_of_lt (by omega)
    rw [e1]
    unfold fmul
    obtain ⟨m, hm⟩ : ∃ m, m = 57896044618658097711785492504343953926634992332820282019728792003956564819949 - k := ⟨_, rfl⟩
    have hp : 57896044618658097711785492504343953926634992332820282019728792003956564819949 = m + k := by omega
    rw [← hm]
    have e2 : m * m + k * (57896044618658097711785492504343953926634992332820282019728792003956564819949 : Nat) = k * k + m * (57896044618658097711785492504343953926634992332820282019728792003956564819949 : Nat) := by
      conv => lhs; rw [hp]
      conv => rhs; rw [hp]
      rw [Nat.mul_add, Nat.mul_add, Nat.mul_comm k m]
      omega
    have e3 : (m * m + k * (57896044618658097711785492504343953926634992332820282019728792003956564819949 : Nat)) % 57896044618658097711785492504343953926634992332820282019728792003956564819949 = m * m % 57896044618658097711785492504343953926634992332820282019728792003956564819949 := Nat.add_mul_mod_self_right _ _ _
    rw [← e3, e2, Nat.add_mul_mod_self_right]
def Ev (s : Two) : Prop := ((s.z = 0 ∨ s.x = 0) ∧ s.w = s.t) ∧ s.Ok
def Od (s : Two) : Prop := (s.x = s.z ∧ (s.w = 0 ∨ s.t = 0)) ∧ s.Ok
theorem ev_swap {b : Nat} {s : Two} (h : Ev s ∨ Od s) : Ev (swapT b s) ∨ Od (swapT b s) := by
  unfold swapT
  split
  · rcases h with ⟨⟨h1, h2⟩, a, b, c, d⟩ | ⟨⟨h1, h2⟩, a, b, c, d⟩
    · exact Or.inr ⟨⟨h2, h1.symm⟩, c, d, a, b⟩
    · exact Or.inl ⟨⟨h2.symm, h1⟩, c, d, a, b⟩
  · exact h
theorem step_sum (j k : Nat) (hj : j < 57896044618658097711785492504343953926634992332820282019728792003956564819949) (hk : k < 57896044618658097711785492504343953926634992332820282019728792003956564819949) (h : j = 0 ∨ k = 0) : fmul (fadd j k) (fadd j k) = fmul 1 (fmul (fsub j k) (fsub j k)) := by
  rw [fmul_comm 1, fmul_one _ (fmul_lt _ _)]
  rcases h with rfl | rfl
  · rw [zero_fadd _ hk, neg_sq _ hk]
  · rw [fadd_zero _ hj, fsub_zero _ hj]
theorem step_ev {s : Two} (h : Ev s) : (stepT 1 s).z = 0 ∧ Ev (stepT 1 s) := by
  obtain ⟨⟨h1, h2⟩, a, b, c, d⟩ := h
  have hz : (stepT 1 s).z = 0 := by
    simp only [stepT]
    rcases h1 with h1 | h1
    · rw [h1, fadd_zero _ a, fsub_zero _ a, fsub_self _ (fmul_lt _ _), zero_fmul]
    · rw [h1, zero_fadd _ b, neg_sq _ b, fsub_self _ (fmul_lt _ _), zero_fmul]
  refine ⟨hz, ⟨Or.inl hz, ?_⟩, stepT_ok _ _⟩
  simp only [stepT]
  refine step_sum _ _ (fmul_lt _ _) (fmul_lt _ _) (Or.inl ?_)
  rw [h2, fsub_self _ d, zero_fmul]
theorem step_od {s : Two} (h : Od s) : Ev (stepT 1 s) := by
  obtain ⟨⟨h1, h2⟩, a, b, c, d⟩ := h
  refine ⟨⟨Or.inr ?_, ?_⟩, stepT_ok _ _⟩
  · simp only [stepT]
    rw [h1, fsub_self _ b, fmul_zero, fmul_zero]
  · simp only [stepT]
    refine step_sum _ _ (fmul_lt _ _) (fmul_lt _ _) (Or.inr ?_)
    rw [h1, fsub_self _ b, fmul_zero]
theorem step_any2 {s : Two} (h : Ev s ∨ Od s) : Ev (stepT 1 s) := by
  rcases h with h | h
  · exact (step_ev h).2
  · exact step_od h
theorem swapT_zero (s : Two) : swapT 0 s = s := rfl
theorem ladF_one (bit : Nat → Nat) (h0 : bit 0 = 0) (h1 : bit 1 = 0) : ∀ (k : Nat) (s : Two), Ev s ∨ Od s → (ladF bit 1 (k + 2) s).z = 0
  | 0, s, h => by
    rw [ladF_succ, ladF_succ, h0, h1, swapT_zero, swapT_zero, swapT_zero, swapT_zero]
    exact (step_ev (step_any2 h)).1
  | k + 1, s, h => by
    rw [ladF_succ]
    exact ladF_one bit h0 h1 k _ (ev_swap (Or.inl (step_any2 (ev_swap h))))
theorem sharedN_one (bit : Nat → Nat) (h0 : bit 0 = 0) (h1 : bit 1 = 0) : sharedN bit 1 = 0 := by
  have h : (ladF bit 1 (253 + 2) ⟨1, 0, 1, 1⟩).z = 0 := ladF_one bit h0 h1 253 _ (Or.inl ⟨⟨Or.inl rfl, rfl⟩, start_ok 1 (by omega)⟩)
  have h2 : (ladF bit 1 255 ⟨1, 0, 1, 1⟩).z = 0 := h
  unfold sharedN
  rw [h2, finv_zero, fmul_zero]
/-- the lowest bits of a scalar -/
theorem kclamp_low (l : List UInt8) (h : l.length = 32) (k : Nat) (hk : k < 3) : bitB (kclamp l) k = 0 := by
  unfold bitB
  have e : k / 8 = 0 := by omega
  have e2 : k % 8 = k := by omega
  have hc : (kclamp l).getD 0 0 = l.getD 0 0 &&& 248 := by unfold kclamp; rw [getD_set_ne8 _ _ _ _ (by omega), getD_set_self8 _ _ _ (by omega)]
  rw [e, e2, hc]
  have hall : ∀ n : Fin 256, ∀ j : Fin 3, (UInt8.ofNat n.val &&& 248).toNat / 2 ^ j.val % 2 = 0 := by decide +kernel
  have := hall ⟨(l.getD 0 0).toNat, (l.getD 0 0).toNat_lt⟩ ⟨k, hk⟩
  simpa using this
theorem sharedK_one (a u : List UInt8) (ha : a.length = 32) (h : placeN u = 1) : sharedK a u = zeroK := by
  unfold sharedK
  rw [h, sharedN_one _ (kclamp_low a ha 0 (by omega)) (kclamp_low a ha 1 (by omega)), lowB_zero]
end Go.Proofs.Ytdikkdediofieaa
