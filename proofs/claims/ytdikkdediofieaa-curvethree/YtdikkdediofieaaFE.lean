/- Fields, and equations in them by reckoning with their letters. No program is run here. -/
import Derived.Test.YtdikkdediofieaaA
namespace Go.Proofs.Ytdikkdediofieaa
/-- a field -/
class Fd (K : Type) where
  add : K → K → K
  mul : K → K → K
  neg : K → K
  inv : K → K
  zero : K
  one : K
  zi : Int → K
  add_comm : ∀ a b, add a b = add b a
  add_assoc : ∀ a b c, add (add a b) c = add a (add b c)
  zero_add : ∀ a, add zero a = a
  add_neg : ∀ a, add a (neg a) = zero
  mul_comm : ∀ a b, mul a b = mul b a
  mul_assoc : ∀ a b c, mul (mul a b) c = mul a (mul b c)
  one_mul : ∀ a, mul one a = a
  mul_add : ∀ a b c, mul a (add b c) = add (mul a b) (mul a c)
  zi_add : ∀ m n, zi (m + n) = add (zi m) (zi n)
  zi_mul : ∀ m n, zi (m * n) = mul (zi m) (zi n)
  zi_one : zi 1 = one
  inv_mul : ∀ a, a ≠ zero → mul a (inv a) = one
  inv_zero : inv zero = zero
  one_ne : one ≠ zero
section
variable {K : Type} [Fd K]
instance : Add K := ⟨Fd.add⟩
instance : Mul K := ⟨Fd.mul⟩
instance : Neg K := ⟨Fd.neg⟩
instance : Sub K := ⟨fun a b => Fd.add a (Fd.neg b)⟩
instance : OfNat K 0 := ⟨Fd.zero⟩
instance : OfNat K 1 := ⟨Fd.one⟩
theorem kadd_comm (a b : K) : a + b = b + a := Fd.add_comm a b
theorem kadd_assoc (a b c : K) : a + b + c = a + (b + c) := Fd.add_assoc a b c
theorem kzero_add (a : K) : 0 + a = a := Fd.zero_add a
theorem kadd_zero (a : K) : a + 0 = a := by rw [kadd_comm, kzero_add]
theorem kadd_neg (a : K) : a + -a = 0 := Fd.add_neg a
theorem ksub_eq (a b : K) : a - b = a + -b := rfl
theorem kmul_comm (a b : K) : a * b = b * a := Fd.mul_comm a b
theorem kmul_assoc (a b c : K) : a * b * c = a * (b * c) := Fd.mul_assoc a b c
theorem kone_mul (a : K) : 1 * a = a := Fd.one_mul a
theorem kmul_one (a : K) : a * 1 = a := by rw [kmul_comm, kone_mul]
theorem kmul_add (a b c : K) : a * (b + c) = a * b + a * c := Fd.mul_add a b c
theorem kadd_mul (a b c : K) : (a + b) * c = a * c + b * c := by rw [kmul_comm, kmul_add, kmul_comm c, kmul_comm c]
theorem kadd_left_comm (a b c : K) : a + (b + c) = b + (a + c) := by rw [← kadd_assoc, kadd_comm a, kadd_assoc]
theorem kmul_left_comm (a b c : K) : a * (b * c) = b * (a * c) := by rw [← kmul_assoc, kmul_comm a, kmul_assoc]
theorem kadd_cancel {a b c : K} (h : a + b = a + c) : b = c := by
  have h1 := congrArg (fun x => -a + x) h
  simp only [← kadd_assoc] at h1
  rw [kadd_comm (-a), kadd_neg, kzero_add, kzero_add] at h1
  exact h1
theorem kmul_zero (a : K) : a * 0 = 0 := by
  have h : a * 0 + a * 0 = a * 0 + 0 := by rw [← kmul_add, kadd_zero, kadd_zero]
  exact kadd_cancel h
theorem kzero_mul (a : K) : 0 * a = 0 := by rw [kmul_comm, kmul_zero]
theorem kneg_unique {a b : K} (h : a + b = 0) : b = -a := kadd_cancel (a := a) (by rw [h, kadd_neg])
theorem kneg_mul (a b : K) : -a * b = -(a * b) := kneg_unique (by rw [← kadd_mul, kadd_neg, kzero_mul])
theorem kneg_neg (a : K) : - -a = a := (kneg_unique (by rw [kadd_comm, kadd_neg])).symm
theorem kneg_zero : -(0 : K) = 0 := (kneg_unique (kadd_zero 0)).symm
theorem ksub_self (a : K) : a - a = 0 := kadd_neg a
theorem keq_of_sub {a b : K} (h : a - b = 0) : a = b := by
  have h1 := kneg_unique (a := -b) (b := a) (by rw [kadd_comm]; exact h)
  rw [h1, kneg_neg]
theorem kinv_mul {a : K} (h : a ≠ 0) : a * Fd.inv a = 1 := Fd.inv_mul a h
theorem kone_ne : (1 : K) ≠ 0 := Fd.one_ne
theorem kmul_ne {a b : K} (ha : a ≠ 0) (hb : b ≠ 0) : a * b ≠ 0 := fun h => hb (by
  have h1 := congrArg (fun x => Fd.inv a * x) h
  simp only [← kmul_assoc] at h1
  rw [kmul_comm (Fd.inv a), kinv_mul ha, kone_mul, kmul_zero] at h1
  exact h1)
theorem kmul_eq_zero {a b : K} (h : a * b = 0) : a = 0 ∨ b = 0 := by
  by_cases ha : a = 0
  · exact Or.inl ha
  · by_cases hb : b = 0
    · exact Or.inr hb
    · exact absurd h (kmul_ne ha hb)
theorem kmul_cancel {a b c : K} (ha : a ≠ 0) (h : a * b = a * c) : b = c := by
  have h1 := congrArg (fun x => Fd.inv a * x) h
  simp only [← kmul_assoc] at h1
  rw [kmul_comm (Fd.inv a), kinv_mul ha, kone_mul, kone_mul] at h1
  exact h1
theorem zi_add (m n : Int) : (Fd.zi (m + n) : K) = Fd.zi m + Fd.zi n := Fd.zi_add m n
theorem zi_mul (m n : Int) : (Fd.zi (m * n) : K) = Fd.zi m * Fd.zi n := Fd.zi_mul m n
theorem zi_one : (Fd.zi 1 : K) = 1 := Fd.zi_one
theorem zi_zero : (Fd.zi 0 : K) = 0 := by
  have h : (Fd.zi 0 : K) + Fd.zi 0 = Fd.zi 0 + 0 := by rw [← zi_add, kadd_zero]; rfl
  exact kadd_cancel h
theorem zi_neg (m : Int) : (Fd.zi (-m) : K) = -Fd.zi m := kneg_unique (by rw [← zi_add, Int.add_right_neg, zi_zero])
/-- products of letters; sums of those -/
def evM (r : Nat → K) : List Nat → K
  | [] => 1
  | i :: m => r i * evM r m
def evP (r : Nat → K) : List (Int × List Nat) → K
  | [] => 0
  | (c, m) :: p => Fd.zi c * evM r m + evP r p
end
def insM (i : Nat) : List Nat → List Nat
  | [] => [i]
  | j :: m => if i ≤ j then i :: j :: m else j :: insM i m
def mulM (m n : List Nat) : List Nat := m.foldr insM n
def insP (c : Int) (m : List Nat) : List (Int × List Nat) → List (Int × List Nat)
  | [] => [(c, m)]
  | (d, n) :: p => if m = n then (if c + d = 0 then p else (c + d, n) :: p) else (d, n) :: insP c m p
def addP (p q : List (Int × List Nat)) : List (Int × List Nat) := p.foldr (fun t s => insP t.1 t.2 s) q
def mulT (c : Int) (m : List Nat) (q : List (Int × List Nat)) : List (Int × List Nat) := q.foldr (fun t s => insP (c * t.1) (mulM m t.2) s) []
def mulP (p q : List (Int × List Nat)) : List (Int × List Nat) := p.foldr (fun t s => addP (mulT t.1 t.2 q) s) []
section
variable {K : Type} [Fd K] (r : Nat → K)
theorem evM_ins (i : Nat) : ∀ m, evM r (insM i m) = r i * evM r m
  | [] => rfl
  | j :: m => by
    unfold insM
    split
    · rfl
    · simp only [evM]
      rw [evM_ins i m, kmul_left_comm]
theorem evM_mul : ∀ m n, evM r (mulM m n) = evM r m * evM r n
  | [], n => by simp [mulM, evM, kone_mul]
  | i :: m, n => by
    show evM r (insM i (mulM m n)) = _
    rw [evM_ins, evM_mul m n]
    simp only [evM]
    rw [kmul_assoc]
theorem evP_ins (c : Int) (m : List Nat) : ∀ p, evP r (insP c m p) = Fd.zi c * evM r m + evP r p
  | [] => rfl
  | (d, n) :: p => by
    unfold insP
    split
    · rename_i h
      subst h
      split
      · rename_i h
        simp only [evP]
        rw [← kadd_assoc, ← kadd_mul, ← zi_add, h, zi_zero, kzero_mul, kzero_add]
      · simp only [evP]
        rw [zi_add, kadd_mul, kadd_assoc]
    · simp only [evP]
      rw [evP_ins c m p, kadd_left_comm]
theorem evP_add : ∀ p q, evP r (addP p q) = evP r p + evP r q
  | [], q => by simp [addP, evP, kzero_add]
  | (c, m) :: p, q => by
    show evP r (insP c m (addP p q)) = _
    rw [evP_ins, evP_add p q]
    simp only [evP]
    rw [kadd_assoc]
theorem evP_mulT (c : Int) (m : List Nat) : ∀ q, evP r (mulT c m q) = Fd.zi c * evM r m * evP r q
  | [] => by simp [mulT, evP, kmul_zero]
  | (d, n) :: q => by
    show evP r (insP (c * d) (mulM m n) (mulT c m q)) = _
    rw [evP_ins, evP_mulT c m q, zi_mul, evM_mul]
    simp only [evP]
    rw [kmul_add]
    congr 1
    rw [kmul_assoc, kmul_assoc, kmul_left_comm (Fd.zi d)]
theorem evP_mul : ∀ p q, evP r (mulP p q) = evP r p * evP r q
  | [], q => by simp [mulP, evP, kzero_mul]
  | (c, m) :: p, q => by
    show evP r (addP (mulT c m q) (mulP p q)) = _
    rw [evP_add, evP_mulT, evP_mul p q]
    simp only [evP]
    rw [kadd_mul]
end
/-- a sum of products of letters -/
structure Po where
  l : List (Int × List Nat)
instance : Add Po := ⟨fun p q => ⟨addP p.l q.l⟩⟩
instance : Mul Po := ⟨fun p q => ⟨mulP p.l q.l⟩⟩
instance : Neg Po := ⟨fun p => ⟨mulT (-1) [] p.l⟩⟩
instance : Sub Po := ⟨fun p q => ⟨addP (mulT (-1) [] q.l) p.l⟩⟩
instance : OfNat Po 1 := ⟨⟨[(1, [])]⟩⟩
/-- a letter -/
def lt (i : Nat) : Po := ⟨[(1, [i])]⟩
section
variable {K : Type} [Fd K] (r : Nat → K)
def ev (p : Po) : K := evP r p.l
theorem ev_add (p q : Po) : ev r (p + q) = ev r p + ev r q := evP_add r p.l q.l
theorem ev_mul (p q : Po) : ev r (p * q) = ev r p * ev r q := evP_mul r p.l q.l
theorem ev_neg (p : Po) : ev r (-p) = -ev r p := by
  show evP r (mulT (-1) [] p.l) = _
  rw [evP_mulT, zi_neg, zi_one]
  simp only [evM]
  rw [kmul_one, kneg_mul, kone_mul]
  rfl
theorem ev_sub (p q : Po) : ev r (p - q) = ev r p - ev r q := by
  show evP r (addP (mulT (-1) [] q.l) p.l) = _
  have h := ev_neg r q
  rw [evP_add, ksub_eq, ← h, kadd_comm]
  rfl
theorem ev_one : ev r 1 = 1 := by
  show Fd.zi 1 * 1 + 0 = (1 : K)
  rw [kadd_zero, kmul_one, zi_one]
theorem ev_lt (i : Nat) : ev r (lt i) = r i := by
  show Fd.zi 1 * (r i * 1) + 0 = r i
  rw [kadd_zero, kmul_one, zi_one, kone_mul]
/-- what cancels out is 0 -/
theorem ev_zero (p : Po) (h : p.l = []) : ev r p = 0 := by
  show evP r p.l = 0
  rw [h]
  rfl
end
/-- the letters' values, in their order -/
def vals {K : Type} [Fd K] (l : List K) (i : Nat) : K := l.getD i 0
end Go.Proofs.Ytdikkdediofieaa
