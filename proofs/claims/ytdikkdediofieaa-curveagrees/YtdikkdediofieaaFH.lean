/- The points of the curve x^2 + y^2 = 1 + d x^2 y^2, d being no square: how they are added. No program is run here. -/
import Derived.Test.YtdikkdediofieaaFG
namespace Go.Proofs.Ytdikkdediofieaa
structure Pt (K : Type) where
  x : K
  y : K
section
variable {K : Type} [Fd K]
omit [Fd K] in
theorem Pt.same {P Q : Pt K} (hx : P.x = Q.x) (hy : P.y = Q.y) : P = Q := by
  cases P
  cases Q
  simp only [Pt.mk.injEq]
  exact ⟨hx, hy⟩
theorem kmul_neg (a b : K) : a * -b = -(a * b) := by rw [kmul_comm, kneg_mul, kmul_comm]
theorem ksub_neg (a b : K) : a - -b = a + b := by rw [ksub_eq, kneg_neg]
theorem ksub_zero (a : K) : a - 0 = a := by rw [ksub_eq, kneg_zero, kadd_zero]
theorem ksub_of_eq {a b : K} (h : a = b) : a - b = 0 := by rw [h, ksub_self]
theorem kdouble (a : K) : a + a = (1 + 1) * a := by rw [kadd_mul, kone_mul]
theorem khalf {a : K} (h2 : (1 + 1 : K) ≠ 0) (h : a + a = 0) : a = 0 := by
  rw [kdouble] at h
  rcases kmul_eq_zero h with h | h
  · exact absurd h h2
  · exact h
theorem kdiv_mul (a : K) {b : K} (h : b ≠ 0) : a * Fd.inv b * b = a := by rw [kmul_assoc, kmul_comm (Fd.inv b), kinv_mul h, kmul_one]
theorem kinv_one : Fd.inv (1 : K) = 1 := by
  have h := kinv_mul (kone_ne : (1 : K) ≠ 0)
  rw [kone_mul] at h
  exact h
/-- d is no square; 2 is not 0 -/
structure Good (d : K) : Prop where
  two : (1 + 1 : K) ≠ 0
  ns : ∀ s : K, s * s ≠ d
variable {d : K} (g : Good d)
def OnP (d : K) (P : Pt K) : Prop := P.x * P.x + P.y * P.y = 1 + d * (P.x * P.x) * (P.y * P.y)
def dl (d : K) (P Q : Pt K) : K := d * (P.x * Q.x) * (P.y * Q.y)
def plusP (d : K) (P Q : Pt K) : Pt K := ⟨(P.x * Q.y + Q.x * P.y) * Fd.inv (1 + dl d P Q), (P.y * Q.y - P.x * Q.x) * Fd.inv (1 - dl d P Q)⟩
def zeroP : Pt K := ⟨0, 1⟩
def negP (P : Pt K) : Pt K := ⟨-P.x, P.y⟩
theorem OnP.zero {P : Pt K} (h : OnP d P) : P.x * P.x + P.y * P.y - (1 + d * (P.x * P.x) * (P.y * P.y)) = 0 := ksub_of_eq h
include g in
theorem Good.no_sq {a b : K} (h : a * a = d * (b * b)) (hb : b ≠ 0) : False := by
  refine g.ns (a * Fd.inv b) ?_
  have e1 : a * Fd.inv b * (a * Fd.inv b) = a * a * (Fd.inv b * Fd.inv b) := by simp only [kmul_assoc, kmul_left_comm]
  have e2 : d * (b * b) * (Fd.inv b * Fd.inv b) = d * (b * Fd.inv b) * (b * Fd.inv b) := by simp only [kmul_assoc, kmul_left_comm]
  rw [e1, h, e2, kinv_mul hb, kmul_one, kmul_one]
include g in
theorem den_ne {P Q : Pt K} (hP : OnP d P) (hQ : OnP d Q) : dl d P Q * dl d P Q ≠ 1 := by
  intro h
  unfold dl at h
  have h0 : d * (P.x * Q.x) * (P.y * Q.y) * (d * (P.x * Q.x) * (P.y * Q.y)) - 1 = 0 := ksub_of_eq h
  have hd : d * (P.x * Q.x) * (P.y * Q.y) ≠ 0 := fun h1 => by
    rw [h1, kzero_mul] at h
    exact kone_ne h.symm
  have nx1 : P.x ≠ 0 := fun h1 => hd (by rw [h1, kzero_mul, kmul_zero, kzero_mul])
  have ny1 : P.y ≠ 0 := fun h1 => hd (by rw [h1, kzero_mul, kmul_zero])
  have nx2 : Q.x ≠ 0 := fun h1 => hd (by rw [h1, kmul_zero, kmul_zero, kzero_mul])
  have e1 := hP.zero
  have e2 := hQ.zero
  have kp := den_p P.x P.y Q.x Q.y d
  have km := den_m P.x P.y Q.x Q.y d
  rw [e1, e2, h0, kmul_zero, kzero_mul, ksub_self, kadd_zero] at kp km
  have kp := keq_of_sub kp
  have km := keq_of_sub km
  have ac : ∀ v : K, d * (P.x * P.y * (P.x * P.y)) * (v * v) = d * (P.x * P.y * v * (P.x * P.y * v)) := fun v => by simp only [kmul_assoc, kmul_left_comm]
  rw [ac] at kp km
  by_cases hp : Q.x + Q.y = 0
  · by_cases hm : Q.x - Q.y = 0
    · have hs : Q.x + Q.x = 0 := by
        have hxy := keq_of_sub hm
        conv => lhs; rw [← kadd_zero (Q.x + Q.x)]
        rw [kadd_zero]
        conv => lhs; rhs; rw [hxy]
        exact hp
      exact nx2 (khalf g.two hs)
    · exact g.no_sq km (kmul_ne (kmul_ne nx1 ny1) hm)
  · exact g.no_sq kp (kmul_ne (kmul_ne nx1 ny1) hp)
include g in
theorem den_p_ne {P Q : Pt K} (hP : OnP d P) (hQ : OnP d Q) : 1 + dl d P Q ≠ 0 := fun h => by
  have e := kneg_unique h
  refine den_ne g hP hQ ?_
  rw [e, kneg_mul, kmul_neg, kneg_neg, kone_mul]
include g in
theorem den_m_ne {P Q : Pt K} (hP : OnP d P) (hQ : OnP d Q) : 1 - dl d P Q ≠ 0 := fun h => by
  have e := keq_of_sub h
  refine den_ne g hP hQ ?_
  rw [← e, kone_mul]
include g in
theorem add_x {P Q : Pt K} (hP : OnP d P) (hQ : OnP d Q) : (plusP d P Q).x * (1 + dl d P Q) = P.x * Q.y + Q.x * P.y := kdiv_mul _ (den_p_ne g hP hQ)
include g in
theorem add_y {P Q : Pt K} (hP : OnP d P) (hQ : OnP d Q) : (plusP d P Q).y * (1 - dl d P Q) = P.y * Q.y - P.x * Q.x := kdiv_mul _ (den_m_ne g hP hQ)
include g in
theorem add_on {P Q : Pt K} (hP : OnP d P) (hQ : OnP d Q) : OnP d (plusP d P Q) := by
  have hA := add_x g hP hQ
  have hB := add_y g hP hQ
  have np := den_p_ne g hP hQ
  have nm := den_m_ne g hP hQ
  have ha := on_a (plusP d P Q).x (plusP d P Q).y (1 + dl d P Q) (1 - dl d P Q) d
  have hb := on_b P.x P.y Q.x Q.y d
  rw [hP.zero, hQ.zero, kmul_zero, kmul_zero, kadd_zero] at hb
  rw [hA, hB] at ha
  unfold dl at ha np nm
  rw [hb] at ha
  rcases kmul_eq_zero ha with h | h
  · exact keq_of_sub h
  · exact absurd h (kmul_ne (kmul_ne np np) (kmul_ne nm nm))
theorem add_comm (P Q : Pt K) : plusP d P Q = plusP d Q P := by
  have e : dl d P Q = dl d Q P := by unfold dl; rw [kmul_comm P.x, kmul_comm P.y]
  unfold plusP
  rw [e, kadd_comm (P.x * Q.y), kmul_comm P.y, kmul_comm P.x Q.x, kmul_comm P.x]
theorem zero_on : OnP d (zeroP : Pt K) := by
  show (0 : K) * 0 + 1 * 1 = 1 + d * (0 * 0) * (1 * 1)
  rw [kmul_zero, kmul_zero, kzero_mul, kone_mul, kzero_add, kadd_zero]
theorem neg_on {P : Pt K} (h : OnP d P) : OnP d (negP P) := by
  show -P.x * -P.x + P.y * P.y = 1 + d * (-P.x * -P.x) * (P.y * P.y)
  rw [kneg_mul, kmul_neg, kneg_neg]
  exact h
theorem add_zero (P : Pt K) : plusP d P zeroP = P := by
  have e : dl d P zeroP = 0 := by show d * (P.x * 0) * (P.y * 1) = 0; rw [kmul_zero, kmul_zero, kzero_mul]
  unfold plusP
  rw [e, kadd_zero, ksub_zero, kinv_one]
  refine Pt.same ?_ ?_
  · show (P.x * 1 + 0 * P.y) * 1 = P.x
    rw [kmul_one, kzero_mul, kadd_zero, kmul_one]
  · show (P.y * 1 - P.x * 0) * 1 = P.y
    rw [kmul_one, kmul_zero, ksub_zero, kmul_one]
theorem dl_neg (P Q : Pt K) : dl d P (negP Q) = -dl d P Q := by
  show d * (P.x * -Q.x) * (P.y * Q.y) = _
  rw [kmul_neg, kmul_neg, kneg_mul]
  rfl
include g in
theorem add_neg {P : Pt K} (h : OnP d P) : plusP d P (negP P) = zeroP := by
  have e := dl_neg (d := d) P P
  have hn := den_p_ne g h h
  refine Pt.same ?_ ?_
  · show (P.x * P.y + -P.x * P.y) * _ = 0
    rw [kneg_mul, kadd_neg, kzero_mul]
  · show (P.y * P.y - P.x * -P.x) * Fd.inv (1 - dl d P (negP P)) = 1
    rw [e, ksub_neg, kmul_neg, ksub_neg, kadd_comm (P.y * P.y), h]
    exact kinv_mul hn
include g in
theorem add_assoc {P Q R : Pt K} (hP : OnP d P) (hQ : OnP d Q) (hR : OnP d R) : plusP d (plusP d P Q) R = plusP d P (plusP d Q R) := by
  have hS := add_on g hP hQ
  have hT := add_on g hQ hR
  have n1 := den_p_ne g hP hQ
  have n2 := den_m_ne g hP hQ
  have n3 := den_p_ne g hQ hR
  have n4 := den_m_ne g hQ hR
  have a1 := add_x g hP hQ
  have a2 := add_y g hP hQ
  have a3 := add_x g hQ hR
  have a4 := add_y g hQ hR
  have l1 := add_x g hS hR
  have l2 := add_y g hS hR
  have r1 := add_x g hP hT
  have r2 := add_y g hP hT
  have m1 := den_p_ne g hS hR
  have m2 := den_m_ne g hS hR
  have m3 := den_p_ne g hP hT
  have m4 := den_m_ne g hP hT
  generalize hx1 : (plusP d (plusP d P Q) R).x = lx at l1
  generalize hy1 : (plusP d (plusP d P Q) R).y = ly at l2
  generalize hx2 : (plusP d P (plusP d Q R)).x = rx at r1
  generalize hy2 : (plusP d P (plusP d Q R)).y = ry at r2
  have MN := kmul_ne (kmul_ne n1 n2) (kmul_ne n3 n4)
  have xa := asx_a (plusP d P Q).x (plusP d P Q).y (plusP d Q R).x (plusP d Q R).y P.x P.y R.x R.y d (1 + dl d P Q) (1 - dl d P Q) (1 + dl d Q R) (1 - dl d Q R)
  have xb := asx_b (plusP d P Q).x (plusP d P Q).y (plusP d Q R).x (plusP d Q R).y P.x P.y R.x R.y d (1 + dl d P Q) (1 - dl d P Q) (1 + dl d Q R) (1 - dl d Q R)
  have xc := asx_c P.x P.y Q.x Q.y R.x R.y d
  have ya := asy_a (plusP d P Q).x (plusP d P Q).y (plusP d Q R).x (plusP d Q R).y P.x P.y R.x R.y d (1 + dl d P Q) (1 - dl d P Q) (1 + dl d Q R) (1 - dl d Q R)
  have yb := asy_b (plusP d P Q).x (plusP d P Q).y (plusP d Q R).x (plusP d Q R).y P.x P.y R.x R.y d (1 + dl d P Q) (1 - dl d P Q) (1 + dl d Q R) (1 - dl d Q R)
  have yc := asy_c P.x P.y Q.x Q.y R.x R.y d
  rw [hP.zero, hQ.zero, hR.zero, kmul_zero, kmul_zero, kmul_zero, kadd_zero, kadd_zero] at xc yc
  have xc := keq_of_sub xc
  have yc := keq_of_sub yc
  rw [a1, a2, a3, a4] at xa xb ya yb
  have xe := xa.trans (xc.trans xb.symm)
  have ye := ya.trans (yc.trans yb.symm)
  refine Pt.same ?_ ?_
  · rw [hx1, hx2]
    refine kmul_cancel (kmul_ne m1 (kmul_ne m3 MN)) ?_
    have e1 : (1 + dl d (plusP d P Q) R) * ((1 + dl d P (plusP d Q R)) * ((1 + dl d P Q) * (1 - dl d P Q) * ((1 + dl d Q R) * (1 - dl d Q R)))) * lx = lx * (1 + dl d (plusP d P Q) R) * (1 + dl d P (plusP d Q R)) * ((1 + dl d P Q) * (1 - dl d P Q) * ((1 + dl d Q R) * (1 - dl d Q R))) := by simp only [kmul_assoc, kmul_left_comm, kmul_comm]
    have e2 : (1 + dl d (plusP d P Q) R) * ((1 + dl d P (plusP d Q R)) * ((1 + dl d P Q) * (1 - dl d P Q) * ((1 + dl d Q R) * (1 - dl d Q R)))) * rx = rx * (1 + dl d P (plusP d Q R)) * (1 + dl d (plusP d P Q) R) * ((1 + dl d P Q) * (1 - dl d P Q) * ((1 + dl d Q R) * (1 - dl d Q R))) := by simp only [kmul_assoc, kmul_left_comm, kmul_comm]
    rw [e1, e2, l1, r1]
    exact xe
  · rw [hy1, hy2]
    refine kmul_cancel (kmul_ne m2 (kmul_ne m4 MN)) ?_
    have e1 : (1 - dl d (plusP d P Q) R) * ((1 - dl d P (plusP d Q R)) * ((1 + dl d P Q) * (1 - dl d P Q) * ((1 + dl d Q R) * (1 - dl d Q R)))) * ly = ly * (1 - dl d (plusP d P Q) R) * (1 - dl d P (plusP d Q R)) * ((1 + dl d P Q) * (1 - dl d P Q) * ((1 + dl d Q R) * (1 - dl d Q R))) := by simp only [kmul_assoc, kmul_left_comm, kmul_comm]
    have e2 : (1 - dl d (plusP d P Q) R) * ((1 - dl d P (plusP d Q R)) * ((1 + dl d P Q) * (1 - dl d P Q) * ((1 + dl d Q R) * (1 - dl d Q R)))) * ry = ry * (1 - dl d P (plusP d Q R)) * (1 - dl d (plusP d P Q) R) * ((1 + dl d P Q) * (1 - dl d P Q) * ((1 + dl d Q R) * (1 - dl d Q R))) := by simp only [kmul_assoc, kmul_left_comm, kmul_comm]
    rw [e1, e2, l2, r2]
    exact ye
/-- a point so many times -/
def timesP (d : K) : Nat → Pt K → Pt K
  | 0, _ => zeroP
  | n + 1, P => plusP d (timesP d n P) P
section
include g
theorem mul_on {P : Pt K} (h : OnP d P) : ∀ n, OnP d (timesP d n P)
  | 0 => zero_on
  | n + 1 => add_on g (mul_on h n) h
theorem mul_add' {P : Pt K} (h : OnP d P) (m : Nat) : ∀ n, timesP d (m + n) P = plusP d (timesP d m P) (timesP d n P)
  | 0 => (add_zero _).symm
  | n + 1 => by
    show plusP d (timesP d (m + n) P) P = plusP d (timesP d m P) (plusP d (timesP d n P) P)
    rw [mul_add' h m n, add_assoc g (mul_on g h m) (mul_on g h n) h]
theorem mul_mul' {P : Pt K} (h : OnP d P) (n : Nat) : ∀ m, timesP d m (timesP d n P) = timesP d (m * n) P
  | 0 => by rw [Nat.zero_mul]; rfl
  | m + 1 => by
    show plusP d (timesP d m (timesP d n P)) (timesP d n P) = _
    rw [mul_mul' h n m, Nat.succ_mul, mul_add' g h]
omit g in
theorem mul_one' (P : Pt K) : timesP d 1 P = P := by
  show plusP d zeroP P = P
  rw [add_comm, add_zero]
/-- one more, less as many: the point -/
theorem mul_dif {P : Pt K} (h : OnP d P) (n : Nat) : plusP d (timesP d (n + 1) P) (negP (timesP d n P)) = P := by
  show plusP d (plusP d (timesP d n P) P) (negP (timesP d n P)) = P
  have ho := mul_on g h n
  rw [add_comm (timesP d n P) P, add_assoc g h ho (neg_on ho), add_neg g ho, add_zero]
/-- of the second coordinates of a sum and a difference -/
theorem dif_rel {P Q : Pt K} (hP : OnP d P) (hQ : OnP d Q) : (1 + (plusP d P Q).y) * (1 + (plusP d P (negP Q)).y) * ((P.y - Q.y) * (P.y - Q.y)) = (1 - (plusP d P Q).y) * (1 - (plusP d P (negP Q)).y) * ((P.y + Q.y) * (P.y + Q.y)) := by
  have np := den_p_ne g hP hQ
  have nm := den_m_ne g hP hQ
  have h1 := add_y g hP hQ
  have h2 := add_y g hP (neg_on hQ)
  rw [dl_neg, ksub_neg] at h2
  change _ = P.y * Q.y - P.x * -Q.x at h2
  rw [kmul_neg, ksub_neg] at h2
  have a := dif_a (plusP d P Q).y (plusP d P (negP Q)).y P.y Q.y (1 + dl d P Q) (1 - dl d P Q)
  have b := dif_b (plusP d P Q).y (plusP d P (negP Q)).y P.y Q.y (1 + dl d P Q) (1 - dl d P Q)
  have c := dif_c P.x P.y Q.x Q.y d
  rw [hP.zero, hQ.zero, kmul_zero, kmul_zero, kadd_zero] at c
  have c := keq_of_sub c
  rw [h1, h2] at a b
  have e := a.trans (c.trans b.symm)
  refine kmul_cancel (kmul_ne nm np) ?_
  rw [kmul_comm, e, kmul_comm]
/-- of the second coordinate of twice a point -/
theorem dbl_rel_p {P : Pt K} (hP : OnP d P) (c : K) (hc : d * (c + 1) = c) : P.y * P.y * (1 - (plusP d P P).y) = (1 - P.y * P.y) * (1 + c * (1 - P.y * P.y)) * (1 + (plusP d P P).y) := by
  have nm := den_m_ne g hP hP
  have h1 := add_y g hP hP
  have a := dbl_p_a (plusP d P P).y P.y c (1 - dl d P P)
  have b := dbl_p_b P.x P.y d c
  rw [hP.zero, ksub_of_eq hc, kmul_zero, kmul_zero, kadd_zero] at b
  rw [h1] at a
  have e := a.trans b
  rcases kmul_eq_zero e with h | h
  · exact keq_of_sub h
  · exact absurd h nm
theorem dbl_rel_m {P : Pt K} (hP : OnP d P) (c : K) (hc : 1 + c = d * c) : P.y * P.y * (1 - (plusP d P P).y) = (1 - P.y * P.y) * (P.y * P.y - c * (1 - P.y * P.y)) * (1 + (plusP d P P).y) := by
  have nm := den_m_ne g hP hP
  have h1 := add_y g hP hP
  have a := dbl_m_a (plusP d P P).y P.y c (1 - dl d P P)
  have b := dbl_m_b P.x P.y d c
  rw [hP.zero, ksub_of_eq hc, kmul_zero, kmul_zero, kadd_zero] at b
  rw [h1] at a
  have e := a.trans b
  rcases kmul_eq_zero e with h | h
  · exact keq_of_sub h
  · exact absurd h nm
end
end
end Go.Proofs.Ytdikkdediofieaa
