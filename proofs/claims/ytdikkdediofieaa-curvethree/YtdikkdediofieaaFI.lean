/- The ladder goes by the points of a curve x^2 + y^2 = 1 + d x^2 y^2: what it makes of two scalars hangs on their product. No program is run here. -/
import Derived.Test.YtdikkdediofieaaFH
namespace Go.Proofs.Ytdikkdediofieaa
section
variable {K : Type} [Fd K]
set_option maxRecDepth 20000 in
theorem pt_a (x y u q c d : K) : (x * x + y * y - (1 + d * (x * x) * (y * y))) * ((u + 1) * (u + 1) * (q * q) * (c + 1)) = (x * q) * (x * q) * ((u + 1) * (u + 1) * (c + 1)) + (y * (u + 1)) * (y * (u + 1)) * (q * q * (c + 1)) - (u + 1) * (u + 1) * (q * q) * (c + 1) - d * (c + 1) * ((x * q) * (x * q)) * ((y * (u + 1)) * (y * (u + 1))) := by
  refine keq_of_sub ?_
  have h := ev_zero (vals [x, y, u, q, c, d]) (((lt 0 * lt 0 + lt 1 * lt 1 - (1 + lt 5 * (lt 0 * lt 0) * (lt 1 * lt 1))) * ((lt 2 + 1) * (lt 2 + 1) * (lt 3 * lt 3) * (lt 4 + 1))) - ((lt 0 * lt 3) * (lt 0 * lt 3) * ((lt 2 + 1) * (lt 2 + 1) * (lt 4 + 1)) + (lt 1 * (lt 2 + 1)) * (lt 1 * (lt 2 + 1)) * (lt 3 * lt 3 * (lt 4 + 1)) - (lt 2 + 1) * (lt 2 + 1) * (lt 3 * lt 3) * (lt 4 + 1) - lt 5 * (lt 4 + 1) * ((lt 0 * lt 3) * (lt 0 * lt 3)) * ((lt 1 * (lt 2 + 1)) * (lt 1 * (lt 2 + 1))))) (by decide +kernel)
  simp only [ev_add, ev_sub, ev_mul, ev_lt, ev_one] at h
  exact h
set_option maxRecDepth 20000 in
theorem pt_b (u c : K) : (1 + 1) * (1 + 1) * ((c + 1) * u * (u * u + (1 + 1 + (1 + 1 + 1 + 1) * c) * u + 1)) * ((u + 1) * (u + 1) * (c + 1)) + (u - 1) * (u - 1) * ((u * u + (1 + 1 + (1 + 1 + 1 + 1) * c) * u + 1) * (u * u + (1 + 1 + (1 + 1 + 1 + 1) * c) * u + 1) * (c + 1)) - (u + 1) * (u + 1) * ((u * u + (1 + 1 + (1 + 1 + 1 + 1) * c) * u + 1) * (u * u + (1 + 1 + (1 + 1 + 1 + 1) * c) * u + 1)) * (c + 1) - c * ((1 + 1) * (1 + 1) * ((c + 1) * u * (u * u + (1 + 1 + (1 + 1 + 1 + 1) * c) * u + 1))) * ((u - 1) * (u - 1)) = u - u := by
  refine keq_of_sub ?_
  have h := ev_zero (vals [u, c]) (((1 + 1) * (1 + 1) * ((lt 1 + 1) * lt 0 * (lt 0 * lt 0 + (1 + 1 + (1 + 1 + 1 + 1) * lt 1) * lt 0 + 1)) * ((lt 0 + 1) * (lt 0 + 1) * (lt 1 + 1)) + (lt 0 - 1) * (lt 0 - 1) * ((lt 0 * lt 0 + (1 + 1 + (1 + 1 + 1 + 1) * lt 1) * lt 0 + 1) * (lt 0 * lt 0 + (1 + 1 + (1 + 1 + 1 + 1) * lt 1) * lt 0 + 1) * (lt 1 + 1)) - (lt 0 + 1) * (lt 0 + 1) * ((lt 0 * lt 0 + (1 + 1 + (1 + 1 + 1 + 1) * lt 1) * lt 0 + 1) * (lt 0 * lt 0 + (1 + 1 + (1 + 1 + 1 + 1) * lt 1) * lt 0 + 1)) * (lt 1 + 1) - lt 1 * ((1 + 1) * (1 + 1) * ((lt 1 + 1) * lt 0 * (lt 0 * lt 0 + (1 + 1 + (1 + 1 + 1 + 1) * lt 1) * lt 0 + 1))) * ((lt 0 - 1) * (lt 0 - 1))) - (lt 0 - lt 0)) (by decide +kernel)
  simp only [ev_add, ev_sub, ev_mul, ev_lt, ev_one] at h
  exact h
set_option maxRecDepth 20000 in
theorem pt_c (x y u q c d : K) : (x * x + y * y - (1 + d * (x * x) * (y * y))) * ((u - 1) * (u - 1) * (q * q) * c) = (x * q) * (x * q) * ((u - 1) * (u - 1) * c) + (y * (u - 1)) * (y * (u - 1)) * (q * q * c) - (u - 1) * (u - 1) * (q * q) * c - d * c * ((x * q) * (x * q)) * ((y * (u - 1)) * (y * (u - 1))) := by
  refine keq_of_sub ?_
  have h := ev_zero (vals [x, y, u, q, c, d]) (((lt 0 * lt 0 + lt 1 * lt 1 - (1 + lt 5 * (lt 0 * lt 0) * (lt 1 * lt 1))) * ((lt 2 - 1) * (lt 2 - 1) * (lt 3 * lt 3) * lt 4)) - ((lt 0 * lt 3) * (lt 0 * lt 3) * ((lt 2 - 1) * (lt 2 - 1) * lt 4) + (lt 1 * (lt 2 - 1)) * (lt 1 * (lt 2 - 1)) * (lt 3 * lt 3 * lt 4) - (lt 2 - 1) * (lt 2 - 1) * (lt 3 * lt 3) * lt 4 - lt 5 * lt 4 * ((lt 0 * lt 3) * (lt 0 * lt 3)) * ((lt 1 * (lt 2 - 1)) * (lt 1 * (lt 2 - 1))))) (by decide +kernel)
  simp only [ev_add, ev_sub, ev_mul, ev_lt, ev_one] at h
  exact h
set_option maxRecDepth 20000 in
theorem pt_d (u c : K) : (1 + 1) * (1 + 1) * (c * u * (u * u + (1 + 1 + (1 + 1 + 1 + 1) * c) * u + 1)) * ((u - 1) * (u - 1) * c) + (u + 1) * (u + 1) * ((u * u + (1 + 1 + (1 + 1 + 1 + 1) * c) * u + 1) * (u * u + (1 + 1 + (1 + 1 + 1 + 1) * c) * u + 1) * c) - (u - 1) * (u - 1) * ((u * u + (1 + 1 + (1 + 1 + 1 + 1) * c) * u + 1) * (u * u + (1 + 1 + (1 + 1 + 1 + 1) * c) * u + 1)) * c - (c + 1) * ((1 + 1) * (1 + 1) * (c * u * (u * u + (1 + 1 + (1 + 1 + 1 + 1) * c) * u + 1))) * ((u + 1) * (u + 1)) = u - u := by
  refine keq_of_sub ?_
  have h := ev_zero (vals [u, c]) (((1 + 1) * (1 + 1) * (lt 1 * lt 0 * (lt 0 * lt 0 + (1 + 1 + (1 + 1 + 1 + 1) * lt 1) * lt 0 + 1)) * ((lt 0 - 1) * (lt 0 - 1) * lt 1) + (lt 0 + 1) * (lt 0 + 1) * ((lt 0 * lt 0 + (1 + 1 + (1 + 1 + 1 + 1) * lt 1) * lt 0 + 1) * (lt 0 * lt 0 + (1 + 1 + (1 + 1 + 1 + 1) * lt 1) * lt 0 + 1) * lt 1) - (lt 0 - 1) * (lt 0 - 1) * ((lt 0 * lt 0 + (1 + 1 + (1 + 1 + 1 + 1) * lt 1) * lt 0 + 1) * (lt 0 * lt 0 + (1 + 1 + (1 + 1 + 1 + 1) * lt 1) * lt 0 + 1)) * lt 1 - (lt 1 + 1) * ((1 + 1) * (1 + 1) * (lt 1 * lt 0 * (lt 0 * lt 0 + (1 + 1 + (1 + 1 + 1 + 1) * lt 1) * lt 0 + 1))) * ((lt 0 + 1) * (lt 0 + 1))) - (lt 0 - lt 0)) (by decide +kernel)
  simp only [ev_add, ev_sub, ev_mul, ev_lt, ev_one] at h
  exact h
set_option maxRecDepth 20000 in
theorem disc (u c : K) : (u + (1 + (1 + 1) * c)) * (u + (1 + (1 + 1) * c)) - (1 + 1) * (1 + 1) * (c * (c + 1)) = (u * u + (1 + 1 + (1 + 1 + 1 + 1) * c) * u + 1) := by
  refine keq_of_sub ?_
  have h := ev_zero (vals [u, c]) (((lt 0 + (1 + (1 + 1) * lt 1)) * (lt 0 + (1 + (1 + 1) * lt 1)) - (1 + 1) * (1 + 1) * (lt 1 * (lt 1 + 1))) - ((lt 0 * lt 0 + (1 + 1 + (1 + 1 + 1 + 1) * lt 1) * lt 0 + 1))) (by decide +kernel)
  simp only [ev_add, ev_sub, ev_mul, ev_lt, ev_one] at h
  exact h
set_option maxRecDepth 20000 in
theorem at_m1 (c : K) : (c + 1) * -1 * (-1 * -1 + (1 + 1 + (1 + 1 + 1 + 1) * c) * -1 + 1) = (1 + 1) * (1 + 1) * (c * (c + 1)) := by
  refine keq_of_sub ?_
  have h := ev_zero (vals [c]) (((lt 0 + 1) * -1 * (-1 * -1 + (1 + 1 + (1 + 1 + 1 + 1) * lt 0) * -1 + 1)) - ((1 + 1) * (1 + 1) * (lt 0 * (lt 0 + 1)))) (by decide +kernel)
  simp only [ev_add, ev_sub, ev_mul, ev_lt, ev_neg, ev_one] at h
  exact h
set_option maxRecDepth 20000 in
theorem at_1 (c : K) : c * 1 * (1 * 1 + (1 + 1 + (1 + 1 + 1 + 1) * c) * 1 + 1) = (1 + 1) * (1 + 1) * (c * (c + 1)) := by
  refine keq_of_sub ?_
  have h := ev_zero (vals [c]) ((lt 0 * 1 * (1 * 1 + (1 + 1 + (1 + 1 + 1 + 1) * lt 0) * 1 + 1)) - ((1 + 1) * (1 + 1) * (lt 0 * (lt 0 + 1)))) (by decide +kernel)
  simp only [ev_add, ev_sub, ev_mul, ev_lt, ev_one] at h
  exact h
set_option maxRecDepth 20000 in
theorem rep_i (X Z Y e : K) : X * (1 - Y) - e * Z * (1 + Y) = X - e * Z - Y * (X + e * Z) := by
  refine keq_of_sub ?_
  have h := ev_zero (vals [X, Z, Y, e]) ((lt 0 * (1 - lt 2) - lt 3 * lt 1 * (1 + lt 2)) - (lt 0 - lt 3 * lt 1 - lt 2 * (lt 0 + lt 3 * lt 1))) (by decide +kernel)
  simp only [ev_add, ev_sub, ev_mul, ev_lt, ev_one] at h
  exact h
set_option maxRecDepth 20000 in
theorem dp_i (L y c : K) : L * L * (y * L * (y * L)) - L * L * (L * L) * (y * y) = L - L := by
  refine keq_of_sub ?_
  have h := ev_zero (vals [L, y, c]) ((lt 0 * lt 0 * (lt 1 * lt 0 * (lt 1 * lt 0)) - lt 0 * lt 0 * (lt 0 * lt 0) * (lt 1 * lt 1)) - (lt 0 - lt 0)) (by decide +kernel)
  simp only [ev_sub, ev_mul, ev_lt] at h
  exact h
set_option maxRecDepth 20000 in
theorem dp_j (L y c : K) : (L * L - y * L * (y * L)) * (L * L + c * (L * L - y * L * (y * L))) = L * L * (L * L) * ((1 - y * y) * (1 + c * (1 - y * y))) := by
  refine keq_of_sub ?_
  have h := ev_zero (vals [L, y, c]) (((lt 0 * lt 0 - lt 1 * lt 0 * (lt 1 * lt 0)) * (lt 0 * lt 0 + lt 2 * (lt 0 * lt 0 - lt 1 * lt 0 * (lt 1 * lt 0)))) - (lt 0 * lt 0 * (lt 0 * lt 0) * ((1 - lt 1 * lt 1) * (1 + lt 2 * (1 - lt 1 * lt 1))))) (by decide +kernel)
  simp only [ev_add, ev_sub, ev_mul, ev_lt, ev_one] at h
  exact h
set_option maxRecDepth 20000 in
theorem dm_j (L y c : K) : -1 * ((y * L * (y * L) - L * L) * (y * L * (y * L) + c * (y * L * (y * L) - L * L))) = L * L * (L * L) * ((1 - y * y) * (y * y - c * (1 - y * y))) := by
  refine keq_of_sub ?_
  have h := ev_zero (vals [L, y, c]) ((-1 * ((lt 1 * lt 0 * (lt 1 * lt 0) - lt 0 * lt 0) * (lt 1 * lt 0 * (lt 1 * lt 0) + lt 2 * (lt 1 * lt 0 * (lt 1 * lt 0) - lt 0 * lt 0)))) - (lt 0 * lt 0 * (lt 0 * lt 0) * ((1 - lt 1 * lt 1) * (lt 1 * lt 1 - lt 2 * (1 - lt 1 * lt 1))))) (by decide +kernel)
  simp only [ev_add, ev_sub, ev_mul, ev_lt, ev_neg, ev_one] at h
  exact h
set_option maxRecDepth 20000 in
theorem sm_i (a b L M : K) : (b * M * L + M * (a * L)) * (b * M * L + M * (a * L)) = L * M * (L * M) * ((b + a) * (b + a)) := by
  refine keq_of_sub ?_
  have h := ev_zero (vals [a, b, L, M]) (((lt 1 * lt 3 * lt 2 + lt 3 * (lt 0 * lt 2)) * (lt 1 * lt 3 * lt 2 + lt 3 * (lt 0 * lt 2))) - (lt 2 * lt 3 * (lt 2 * lt 3) * ((lt 1 + lt 0) * (lt 1 + lt 0)))) (by decide +kernel)
  simp only [ev_add, ev_sub, ev_mul, ev_lt] at h
  exact h
set_option maxRecDepth 20000 in
theorem sm_j (a b L M : K) : (b * M * L - M * (a * L)) * (b * M * L - M * (a * L)) = L * M * (L * M) * ((b - a) * (b - a)) := by
  refine keq_of_sub ?_
  have h := ev_zero (vals [a, b, L, M]) (((lt 1 * lt 3 * lt 2 - lt 3 * (lt 0 * lt 2)) * (lt 1 * lt 3 * lt 2 - lt 3 * (lt 0 * lt 2))) - (lt 2 * lt 3 * (lt 2 * lt 3) * ((lt 1 - lt 0) * (lt 1 - lt 0)))) (by decide +kernel)
  simp only [ev_sub, ev_mul, ev_lt] at h
  exact h
set_option maxRecDepth 20000 in
theorem sm_k (a b L M : K) : (M * (a * L) + b * M * L) * (M * (a * L) + b * M * L) = L * M * (L * M) * ((b + a) * (b + a)) := by
  refine keq_of_sub ?_
  have h := ev_zero (vals [a, b, L, M]) (((lt 3 * (lt 0 * lt 2) + lt 1 * lt 3 * lt 2) * (lt 3 * (lt 0 * lt 2) + lt 1 * lt 3 * lt 2)) - (lt 2 * lt 3 * (lt 2 * lt 3) * ((lt 1 + lt 0) * (lt 1 + lt 0)))) (by decide +kernel)
  simp only [ev_add, ev_sub, ev_mul, ev_lt] at h
  exact h
set_option maxRecDepth 20000 in
theorem sm_l (a b L M : K) : (M * (a * L) - b * M * L) * (M * (a * L) - b * M * L) = L * M * (L * M) * ((b - a) * (b - a)) := by
  refine keq_of_sub ?_
  have h := ev_zero (vals [a, b, L, M]) (((lt 3 * (lt 0 * lt 2) - lt 1 * lt 3 * lt 2) * (lt 3 * (lt 0 * lt 2) - lt 1 * lt 3 * lt 2)) - (lt 2 * lt 3 * (lt 2 * lt 3) * ((lt 1 - lt 0) * (lt 1 - lt 0)))) (by decide +kernel)
  simp only [ev_sub, ev_mul, ev_lt] at h
  exact h
set_option maxRecDepth 20000 in
theorem sm_m (u y e : K) : u * (1 - y) - e * (1 + y) = u - e - y * (u + e) := by
  refine keq_of_sub ?_
  have h := ev_zero (vals [u, y, e]) ((lt 0 * (1 - lt 1) - lt 2 * (1 + lt 1)) - (lt 0 - lt 2 - lt 1 * (lt 0 + lt 2))) (by decide +kernel)
  simp only [ev_add, ev_sub, ev_mul, ev_lt, ev_one] at h
  exact h
set_option maxRecDepth 20000 in
theorem sum_dif (a b : K) : (a + b) + (a - b) = a + a := by
  refine keq_of_sub ?_
  have h := ev_zero (vals [a, b]) (((lt 0 + lt 1) + (lt 0 - lt 1)) - (lt 0 + lt 0)) (by decide +kernel)
  simp only [ev_add, ev_sub, ev_lt] at h
  exact h
set_option maxRecDepth 20000 in
theorem dif_sum (a b : K) : (a + b) - (a - b) = b + b := by
  refine keq_of_sub ?_
  have h := ev_zero (vals [a, b]) (((lt 0 + lt 1) - (lt 0 - lt 1)) - (lt 1 + lt 1)) (by decide +kernel)
  simp only [ev_add, ev_sub, ev_lt] at h
  exact h
set_option maxRecDepth 20000 in
theorem sq_dif (a : K) : (a - 1) * (a + 1) = a * a - 1 := by
  refine keq_of_sub ?_
  have h := ev_zero (vals [a]) (((lt 0 - 1) * (lt 0 + 1)) - (lt 0 * lt 0 - 1)) (by decide +kernel)
  simp only [ev_add, ev_sub, ev_mul, ev_lt, ev_one] at h
  exact h
/-- X : Z tells the second coordinate of a point (e: 1, or -1) -/
def Rep (e : K) (P : Pt K) (X Z : K) : Prop := X + e * Z ≠ 0 ∧ X - e * Z = P.y * (X + e * Z)
theorem neg_one_sq : (-1 : K) * -1 = 1 := by rw [kneg_mul, kmul_neg, kneg_neg, kone_mul]
theorem Rep.cross {e : K} {P : Pt K} {X Z : K} (h : Rep e P X Z) : X * (1 - P.y) = e * Z * (1 + P.y) := by
  have i := rep_i X Z P.y e
  rw [h.2, ksub_self] at i
  exact keq_of_sub i
theorem rep_of {e : K} (h2 : (1 + 1 : K) ≠ 0) (he : e * e = 1) {P : Pt K} {X Z : K} (h : X * (1 - P.y) = e * Z * (1 + P.y)) (h0 : ¬ (X = 0 ∧ Z = 0)) : Rep e P X Z := by
  have i := rep_i X Z P.y e
  rw [h, ksub_self] at i
  have hx := keq_of_sub i.symm
  refine ⟨fun hl => h0 ?_, hx⟩
  rw [hl, kmul_zero] at hx
  have s1 := sum_dif X (e * Z)
  rw [hl, hx, kadd_zero] at s1
  have s2 := dif_sum X (e * Z)
  rw [hl, hx, ksub_self] at s2
  have hez := khalf h2 s2.symm
  refine ⟨khalf h2 s1.symm, ?_⟩
  rcases kmul_eq_zero hez with h | h
  · rw [h, kmul_zero] at he
    exact absurd he.symm kone_ne
  · exact h
/-- on which of the two curves the ladder goes -/
def Side (e d c : K) : Prop := (e = 1 ∧ d * (c + 1) = c) ∨ (e = -1 ∧ 1 + c = d * c)
theorem Side.sq {e d c : K} (h : Side e d c) : e * e = 1 := by
  rcases h with ⟨rfl, _⟩ | ⟨rfl, _⟩
  · exact kone_mul 1
  · exact neg_one_sq
theorem Side.ne {e d c : K} (h : Side e d c) : e ≠ 0 := fun h0 => by
  have := h.sq
  rw [h0, kmul_zero] at this
  exact kone_ne this.symm
structure Tw (K : Type) where
  x : K
  z : K
  w : K
  t : K
def stepK (c u : K) (s : Tw K) : Tw K :=
  ⟨(s.x + s.z) * (s.x + s.z) * ((s.x - s.z) * (s.x - s.z)),
   ((s.x + s.z) * (s.x + s.z) - (s.x - s.z) * (s.x - s.z)) * ((s.x + s.z) * (s.x + s.z) + c * ((s.x + s.z) * (s.x + s.z) - (s.x - s.z) * (s.x - s.z))),
   ((s.w - s.t) * (s.x + s.z) + (s.w + s.t) * (s.x - s.z)) * ((s.w - s.t) * (s.x + s.z) + (s.w + s.t) * (s.x - s.z)),
   u * (((s.w - s.t) * (s.x + s.z) - (s.w + s.t) * (s.x - s.z)) * ((s.w - s.t) * (s.x + s.z) - (s.w + s.t) * (s.x - s.z)))⟩
section
variable {d : K} (g : Good d)
include g
theorem rep_double {e c u : K} (hs : Side e d c) {P : Pt K} (hP : OnP d P) {s : Tw K} (h : Rep e P s.x s.z) : Rep e (plusP d P P) (stepK c u s).x (stepK c u s).z := by
  obtain ⟨hL, hy⟩ := h
  simp only [stepK]
  rcases hs with ⟨rfl, hc⟩ | ⟨rfl, hc⟩
  · rw [kone_mul] at hL hy
    rw [hy]
    have hr := dbl_rel_p g hP c hc
    generalize s.x + s.z = L at hL ⊢
    have i := keq_of_sub ((dp_i L P.y c).trans (ksub_self L))
    have j := dp_j L P.y c
    rw [i, j]
    refine rep_of g.two (kone_mul 1) ?_ ?_
    · rw [kone_mul, kmul_assoc, hr, ← kmul_assoc]
    · rintro ⟨h1, h2⟩
      have hLL := kmul_ne (kmul_ne hL hL) (kmul_ne hL hL)
      have y0 : P.y * P.y = 0 := by
        rcases kmul_eq_zero h1 with h | h
        · exact absurd h hLL
        · exact h
      rw [y0, ksub_zero, kone_mul, kmul_one] at h2
      have c1 : 1 + c = 0 := by
        rcases kmul_eq_zero h2 with h | h
        · exact absurd h hLL
        · exact h
      rw [kadd_comm] at c1
      rw [c1, kmul_zero] at hc
      rw [← hc, kzero_add] at c1
      exact kone_ne c1
  · have ea : s.x + -1 * s.z = s.x - s.z := by rw [kneg_mul, kone_mul]; rfl
    have eb : s.x - -1 * s.z = s.x + s.z := by rw [kneg_mul, kone_mul, ksub_neg]
    rw [ea] at hL hy
    rw [eb] at hy
    rw [hy]
    have hr := dbl_rel_m g hP c hc
    generalize s.x - s.z = L at hL ⊢
    have i := keq_of_sub ((dp_i L P.y c).trans (ksub_self L))
    have j := dm_j L P.y c
    rw [kmul_comm (P.y * L * (P.y * L)) (L * L), i]
    refine rep_of g.two neg_one_sq ?_ ?_
    · rw [j, kmul_assoc, hr, ← kmul_assoc]
    · rintro ⟨h1, h2⟩
      have hLL := kmul_ne (kmul_ne hL hL) (kmul_ne hL hL)
      have y0 : P.y * P.y = 0 := by
        rcases kmul_eq_zero h1 with h | h
        · exact absurd h hLL
        · exact h
      rw [h2, kmul_zero, y0, ksub_zero, kone_mul, kmul_one] at j
      have c0 : 0 - c = 0 := by
        rcases kmul_eq_zero j.symm with h | h
        · exact absurd h hLL
        · exact h
      have c1 := (keq_of_sub c0).symm
      rw [c1, kmul_zero, kadd_zero] at hc
      exact kone_ne hc
theorem rep_sum {e c u : K} (hs : Side e d c) (hu : u ≠ 0) {P Q P0 : Pt K} (hP : OnP d P) (hQ : OnP d Q) (hD : (plusP d Q (negP P)).y = P0.y) (h0 : Rep e P0 u 1) {s : Tw K} (h : Rep e P s.x s.z) (h' : Rep e Q s.w s.t) : Rep e (plusP d Q P) (stepK c u s).w (stepK c u s).t := by
  obtain ⟨hL, hy⟩ := h
  obtain ⟨hM, hy'⟩ := h'
  obtain ⟨hL0, hu0⟩ := h0
  have he := hs.sq
  have hene := hs.ne
  rw [kmul_one] at hL0 hu0
  have hY : P0.y ≠ 1 := fun h1 => by
    rw [h1, kone_mul] at hu0
    have s2 := dif_sum u e
    rw [hu0, ksub_self] at s2
    exact hene (khalf g.two s2.symm)
  have hY' : 1 - P0.y ≠ 0 := fun h1 => hY (keq_of_sub h1).symm
  have hm := sm_m u P0.y e
  rw [hu0, ksub_self] at hm
  have hm := keq_of_sub hm
  have hrel := dif_rel g hQ hP
  rw [hD] at hrel
  obtain ⟨L, hLe⟩ : ∃ L, L = s.x + e * s.z := ⟨_, rfl⟩
  obtain ⟨M, hMe⟩ : ∃ M, M = s.w + e * s.t := ⟨_, rfl⟩
  rw [← hLe] at hL hy
  rw [← hMe] at hM hy'
  have hw : (stepK c u s).w = L * M * (L * M) * ((Q.y + P.y) * (Q.y + P.y)) ∧ (stepK c u s).t = u * (L * M * (L * M) * ((Q.y - P.y) * (Q.y - P.y))) := by
    simp only [stepK]
    rcases hs with ⟨rfl, hc⟩ | ⟨rfl, hc⟩
    · rw [kone_mul] at hLe hMe hy hy'
      rw [← hLe, ← hMe, hy, hy']
      exact ⟨sm_i P.y Q.y L M, by rw [sm_j P.y Q.y L M]⟩
    · have ea : ∀ a b : K, a + -1 * b = a - b := fun a b => by rw [kneg_mul, kone_mul]; rfl
      have eb : ∀ a b : K, a - -1 * b = a + b := fun a b => by rw [kneg_mul, kone_mul, ksub_neg]
      rw [ea] at hLe hMe
      rw [eb] at hy hy'
      rw [← hLe, ← hMe, hy, hy']
      exact ⟨sm_k P.y Q.y L M, by rw [sm_l P.y Q.y L M]⟩
  rw [hw.1, hw.2]
  have hLM := kmul_ne (kmul_ne hL hM) (kmul_ne hL hM)
  generalize L * M * (L * M) = N at hLM ⊢
  refine rep_of g.two he ?_ ?_
  · refine kmul_cancel hY' ?_
    have e1 : (1 - P0.y) * (N * ((Q.y + P.y) * (Q.y + P.y)) * (1 - (plusP d Q P).y)) = N * ((1 - (plusP d Q P).y) * (1 - P0.y) * ((Q.y + P.y) * (Q.y + P.y))) := by simp only [kmul_assoc, kmul_left_comm, kmul_comm]
    have e2 : (1 - P0.y) * (e * (u * (N * ((Q.y - P.y) * (Q.y - P.y)))) * (1 + (plusP d Q P).y)) = N * ((1 + (plusP d Q P).y) * (e * (u * (1 - P0.y))) * ((Q.y - P.y) * (Q.y - P.y))) := by simp only [kmul_assoc, kmul_left_comm, kmul_comm]
    rw [e1, e2, ← hrel, hm, ← kmul_assoc e, he, kone_mul]
  · rintro ⟨h1, h2⟩
    have sq0 : ∀ a : K, a * a = 0 → a = 0 := fun a ha => by
      rcases kmul_eq_zero ha with h | h <;> exact h
    have p0 : Q.y + P.y = 0 := by
      rcases kmul_eq_zero h1 with h | h
      · exact absurd h hLM
      · exact sq0 _ h
    have m0 : Q.y - P.y = 0 := by
      rcases kmul_eq_zero h2 with h | h
      · exact absurd h hu
      · rcases kmul_eq_zero h with h | h
        · exact absurd h hLM
        · exact sq0 _ h
    have s1 := sum_dif Q.y P.y
    rw [p0, m0, kadd_zero] at s1
    have s2 := dif_sum Q.y P.y
    rw [p0, m0, ksub_self] at s2
    have q0 := khalf g.two s1.symm
    have pp0 := khalf g.two s2.symm
    have one_sq : ∀ A : Pt K, OnP d A → A.y = 0 → A.x * A.x = 1 := fun A hA h0 => by
      unfold OnP at hA
      rw [h0, kmul_zero, kmul_zero, kadd_zero, kadd_zero] at hA
      exact hA
    have hy0 := add_y g hQ (neg_on hP)
    rw [dl_neg, ksub_neg, hD] at hy0
    change _ = Q.y * P.y - Q.x * -P.x at hy0
    have hdl : dl d Q P = 0 := by unfold dl; rw [q0, kzero_mul, kmul_zero]
    rw [hdl, q0, kzero_mul, kmul_neg, ksub_neg, kzero_add, kadd_zero, kmul_one] at hy0
    have hsq : P0.y * P0.y = 1 := by
      rw [hy0]
      have e1 : Q.x * P.x * (Q.x * P.x) = Q.x * Q.x * (P.x * P.x) := by simp only [kmul_assoc, kmul_left_comm]
      rw [e1, one_sq Q hQ q0, one_sq P hP pp0, kone_mul]
    have hf := sq_dif P0.y
    rw [hsq, ksub_self] at hf
    rcases kmul_eq_zero hf with h | h
    · exact hY (keq_of_sub h)
    · rw [kadd_comm] at h
      have hn := kneg_unique h
      rw [hn, kneg_mul, kone_mul] at hu0
      have hz : (u + e) + (u - e) = 0 := by rw [hu0, kadd_neg]
      rw [sum_dif] at hz
      exact hu (khalf g.two hz)
omit g in
theorem dif_sym (P Q : Pt K) : (plusP d P (negP Q)).y = (plusP d Q (negP P)).y := by
  show (P.y * Q.y - P.x * -Q.x) * Fd.inv (1 - dl d P (negP Q)) = (Q.y * P.y - Q.x * -P.x) * Fd.inv (1 - dl d Q (negP P))
  have e : dl d P Q = dl d Q P := by unfold dl; rw [kmul_comm P.x, kmul_comm P.y]
  rw [dl_neg, dl_neg, e, kmul_neg, kmul_neg, kmul_comm P.y, kmul_comm P.x]
end
def swapK (b : Nat) (s : Tw K) : Tw K := if b = 1 then ⟨s.w, s.t, s.x, s.z⟩ else s
def ladK (c u : K) (bit : Nat → Nat) : Nat → Tw K → Tw K
  | 0, s => s
  | k + 1, s => ladK c u bit k (swapK (bit k) (stepK c u (swapK (bit k) s)))
/-- the number of bits -/
def numB (bit : Nat → Nat) : Nat → Nat → Nat
  | 0, n => n
  | k + 1, n => numB bit k (2 * n + bit k)
theorem numB_even (bit : Nat → Nat) (h : bit 0 = 0) : ∀ k n, ∃ m, numB bit (k + 1) n = 2 * m
  | 0, n => ⟨n, by show 2 * n + bit 0 = _; rw [h]; rfl⟩
  | k + 1, n => numB_even bit h k (2 * n + bit (k + 1))
/-- the place of a point -/
noncomputable def plc (e : K) (P : Pt K) : K := open Classical in if P.y = 1 then 0 else e * (1 + P.y) * Fd.inv (1 - P.y)
theorem Rep.plc {e : K} (h2 : (1 + 1 : K) ≠ 0) (he : e ≠ 0) {P : Pt K} {X Z : K} (h : Rep e P X Z) : X * Fd.inv Z = plc e P := by
  have hc := h.cross
  unfold Go.Proofs.Ytdikkdediofieaa.plc
  by_cases h1 : P.y = 1
  · rw [if_pos h1]
    rw [h1, ksub_self, kmul_zero] at hc
    have hz : Z = 0 := by
      rcases kmul_eq_zero hc.symm with h | h
      · rcases kmul_eq_zero h with h | h
        · exact absurd h he
        · exact h
      · exact absurd h h2
    rw [hz]
    have hi : Fd.inv (0 : K) = 0 := Fd.inv_zero
    rw [hi, kmul_zero]
  · rw [if_neg h1]
    have hn : 1 - P.y ≠ 0 := fun h0 => h1 (keq_of_sub h0).symm
    have hz : Z ≠ 0 := fun h0 => by
      rw [h0, kmul_zero, kzero_mul] at hc
      have hx : X = 0 := by
        rcases kmul_eq_zero hc with h | h
        · exact h
        · exact absurd h hn
      exact h.1 (by rw [hx, h0, kmul_zero, kadd_zero])
    refine kmul_cancel (kmul_ne hz hn) ?_
    have e1 : Z * (1 - P.y) * (X * Fd.inv Z) = X * (1 - P.y) * (Z * Fd.inv Z) := by simp only [kmul_assoc, kmul_left_comm]
    have e2 : Z * (1 - P.y) * (e * (1 + P.y) * Fd.inv (1 - P.y)) = e * Z * (1 + P.y) * ((1 - P.y) * Fd.inv (1 - P.y)) := by simp only [kmul_assoc, kmul_left_comm]
    rw [e1, e2, kinv_mul hz, kinv_mul hn, hc]
section
variable {d : K} (g : Good d)
include g
theorem rep_ladder {e c u : K} (hs : Side e d c) (hu : u ≠ 0) {P : Pt K} (hP : OnP d P) (h0 : Rep e P u 1) (bit : Nat → Nat) (hb : ∀ k, bit k ≤ 1) : ∀ (k n : Nat) (s : Tw K), Rep e (timesP d n P) s.x s.z → Rep e (timesP d (n + 1) P) s.w s.t →
    Rep e (timesP d (numB bit k n) P) (ladK c u bit k s).x (ladK c u bit k s).z
  | 0, _, _, h, _ => h
  | k + 1, n, s, h, h' => by
    have ho := mul_on g hP n
    have ho' := mul_on g hP (n + 1)
    have e1 : ∀ m, plusP d (timesP d m P) (timesP d m P) = timesP d (2 * m) P := fun m => by rw [← mul_add' g hP, Nat.two_mul]
    have hd := mul_dif g hP n
    show Rep e (timesP d (numB bit k (2 * n + bit k)) P) (ladK c u bit k (swapK (bit k) (stepK c u (swapK (bit k) s)))).x (ladK c u bit k (swapK (bit k) (stepK c u (swapK (bit k) s)))).z
    refine rep_ladder hs hu hP h0 bit hb k (2 * n + bit k) _ ?_ ?_
    · by_cases h1 : bit k = 1
      · unfold swapK
        rw [if_pos h1, if_pos h1]
        have hr := rep_sum (c := c) g hs hu ho' ho (P0 := P) (by rw [dif_sym, hd]) h0 (s := ⟨s.w, s.t, s.x, s.z⟩) h' h
        rw [← mul_add' g hP, show n + (n + 1) = 2 * n + bit k from by omega] at hr
        exact hr
      · unfold swapK
        rw [if_neg h1, if_neg h1]
        have hr := rep_double (c := c) (u := u) g hs ho h
        rw [e1, show 2 * n = 2 * n + bit k from by have := hb k; omega] at hr
        exact hr
    · by_cases h1 : bit k = 1
      · unfold swapK
        rw [if_pos h1, if_pos h1]
        have hr := rep_double (c := c) (u := u) g hs ho' (s := ⟨s.w, s.t, s.x, s.z⟩) h'
        rw [e1, show 2 * (n + 1) = 2 * n + bit k + 1 from by omega] at hr
        exact hr
      · unfold swapK
        rw [if_neg h1, if_neg h1]
        have hr := rep_sum (c := c) g hs hu ho ho' (P0 := P) (by rw [hd]) h0 h h'
        rw [← mul_add' g hP, show n + 1 + n = 2 * n + bit k + 1 from by have := hb k; omega] at hr
        exact hr
theorem ladder_plc {e c u : K} (hs : Side e d c) (hu : u ≠ 0) {P : Pt K} (hP : OnP d P) (h0 : Rep e P u 1) (bit : Nat → Nat) (hb : ∀ k, bit k ≤ 1) (k : Nat) :
    (ladK c u bit k ⟨1, 0, u, 1⟩).x * Fd.inv (ladK c u bit k ⟨1, 0, u, 1⟩).z = plc e (timesP d (numB bit k 0) P) := by
  refine Rep.plc g.two hs.ne (rep_ladder g hs hu hP h0 bit hb k 0 _ ?_ ?_)
  · refine ⟨?_, ?_⟩
    · show (1 : K) + e * 0 ≠ 0
      rw [kmul_zero, kadd_zero]; exact kone_ne
    · show (1 : K) - e * 0 = 1 * (1 + e * 0)
      rw [kmul_zero, kadd_zero, ksub_zero, kone_mul]
  · rw [mul_one']; exact h0
/-- where the place is 0, the point is one of two; twice it is none -/
theorem plc_zero {e : K} (he : e ≠ 0) {Q : Pt K} (hQ : OnP d Q) (h : plc e Q = 0) (m : Nat) : timesP d (2 * m) Q = zeroP := by
  have hsq : Q.y * Q.y = 1 := by
    unfold plc at h
    by_cases h1 : Q.y = 1
    · rw [h1, kone_mul]
    · rw [if_neg h1] at h
      have hn : 1 - Q.y ≠ 0 := fun h0 => h1 (keq_of_sub h0).symm
      have hm : e * (1 + Q.y) = 0 := by
        have h3 := kdiv_mul (e * (1 + Q.y)) hn
        rw [h, kzero_mul] at h3
        exact h3.symm
      rcases kmul_eq_zero hm with h | h
      · exact absurd h he
      · rw [kneg_unique h, neg_one_sq]
  have hx : Q.x = 0 := by
    refine Classical.byContradiction fun hx => ?_
    unfold OnP at hQ
    rw [hsq, kmul_one, kadd_comm] at hQ
    have h1 := kadd_cancel hQ
    refine g.no_sq (a := Q.x) (b := Q.x) ?_ hx
    exact h1
  have h2 : timesP d 2 Q = zeroP := by
    show plusP d (plusP d zeroP Q) Q = zeroP
    rw [add_comm zeroP Q, add_zero]
    have hdl : dl d Q Q = 0 := by unfold dl; rw [hx, kmul_zero, kmul_zero, kzero_mul]
    refine Pt.same ?_ ?_
    · show (Q.x * Q.y + Q.x * Q.y) * _ = 0
      rw [hx, kzero_mul, kadd_zero, kzero_mul]
    · show (Q.y * Q.y - Q.x * Q.x) * Fd.inv (1 - dl d Q Q) = 1
      rw [hdl, ksub_zero, kinv_one, hx, kmul_zero, ksub_zero, kmul_one, hsq]
  have hz : ∀ k, timesP d k (zeroP : Pt K) = zeroP := fun k => by
    induction k with
    | zero => rfl
    | succ k ih =>
      show plusP d (timesP d k zeroP) zeroP = zeroP
      rw [ih, add_zero]
  rw [Nat.mul_comm, ← mul_mul' g hQ 2 m, h2, hz]
omit g in
theorem plc_none (e : K) : plc e (zeroP : Pt K) = 0 := by
  unfold plc
  exact if_pos rfl
theorem plc_rep {e : K} (he : e * e = 1) {Q : Pt K} (h : plc e Q ≠ 0) : Rep e Q (plc e Q) 1 := by
  refine rep_of g.two he ?_ (fun h0 => kone_ne h0.2)
  unfold plc at h ⊢
  by_cases h1 : Q.y = 1
  · rw [if_pos h1] at h
    exact absurd rfl h
  · rw [if_neg h1]
    have hn : 1 - Q.y ≠ 0 := fun h0 => h1 (keq_of_sub h0).symm
    rw [kdiv_mul _ hn, kmul_one]
end
/-- what two scalars make, one behind the other -/
theorem ladder_twice {d e c u : K} (g : Good d) (hs : Side e d c) (hu : u ≠ 0) {P : Pt K} (hP : OnP d P) (h0 : Rep e P u 1) (z : (Nat → Nat) → K → K) (k : Nat) (hz : ∀ bit v, z bit v = (ladK c v bit k ⟨1, 0, v, 1⟩).x * Fd.inv (ladK c v bit k ⟨1, 0, v, 1⟩).z)
    (hz0 : ∀ bit, z bit 0 = 0) (a b : Nat → Nat) (ha : ∀ k, a k ≤ 1) (hb : ∀ k, b k ≤ 1) (hae : ∃ m, numB a k 0 = 2 * m) : z a (z b u) = plc e (timesP d (numB a k 0 * numB b k 0) P) := by
  have hQ := mul_on g hP (numB b k 0)
  have h1 : z b u = plc e (timesP d (numB b k 0) P) := by rw [hz]; exact ladder_plc g hs hu hP h0 b hb k
  rw [← mul_mul' g hP]
  by_cases hv : plc e (timesP d (numB b k 0) P) = 0
  · obtain ⟨m, hm⟩ := hae
    rw [h1, hv, hz0, hm, plc_zero g hs.ne hQ hv m, plc_none]
  · rw [h1, hz]
    exact ladder_plc g hs hv hQ (plc_rep g hs.sq hv) a ha k
/-- each place but 0 is that of a point, on one of the two curves -/
theorem place_point {c : K} (h2 : (1 + 1 : K) ≠ 0) (hns : ∀ s : K, s * s ≠ c * (c + 1)) (hd : ∀ z : K, (∃ s : K, s * s = z) ∨ ∃ s : K, s * s = c * (c + 1) * z) (u : K) :
    ∃ e d : K, Good d ∧ Side e d c ∧ ∃ P : Pt K, OnP d P ∧ Rep e P u 1 := by
  have hc0 : c ≠ 0 := fun h => hns 0 (by rw [h, kzero_mul, kzero_mul])
  have hc1 : c + 1 ≠ 0 := fun h => hns 0 (by rw [h, kmul_zero, kmul_zero])
  have half : ∀ s m : K, s * s = (1 + 1) * (1 + 1) * m → s * Fd.inv (1 + 1) * (s * Fd.inv (1 + 1)) = m := fun s m h => by
    have e1 : s * Fd.inv (1 + 1) * (s * Fd.inv (1 + 1)) = s * s * (Fd.inv (1 + 1) * Fd.inv (1 + 1)) := by simp only [kmul_assoc, kmul_left_comm]
    have e2 : (1 + 1) * (1 + 1) * m * (Fd.inv (1 + 1) * Fd.inv (1 + 1)) = m * (((1 + 1) * Fd.inv (1 + 1)) * ((1 + 1) * Fd.inv (1 + 1))) := by simp only [kmul_assoc, kmul_left_comm, kmul_comm]
    rw [e1, h, e2, kinv_mul h2, kmul_one, kmul_one]
  have hq : u * u + (1 + 1 + (1 + 1 + 1 + 1) * c) * u + 1 ≠ 0 := fun h => by
    have hdd := disc u c
    rw [h] at hdd
    exact hns _ (half _ _ (keq_of_sub hdd))
  have two_s : ∀ s : K, (1 + 1) * s * ((1 + 1) * s) = (1 + 1) * (1 + 1) * (s * s) := fun s => by simp only [kmul_assoc, kmul_left_comm]
  rcases hd ((c + 1) * u * (u * u + (1 + 1 + (1 + 1 + 1 + 1) * c) * u + 1)) with ⟨s, hs⟩ | ⟨s, hs⟩
  · have hu1 : u + 1 ≠ 0 := fun h => by
      rw [kadd_comm] at h
      rw [kneg_unique h, at_m1] at hs
      exact hns _ (half _ _ hs)
    refine ⟨1, c * Fd.inv (c + 1), ⟨h2, fun r hr => hns (r * (c + 1)) ?_⟩, Or.inl ⟨rfl, kdiv_mul c hc1⟩, ⟨(1 + 1) * s * Fd.inv (u * u + (1 + 1 + (1 + 1 + 1 + 1) * c) * u + 1), (u - 1) * Fd.inv (u + 1)⟩, ?_, ?_, ?_⟩
    · have e1 : r * (c + 1) * (r * (c + 1)) = r * r * (c + 1) * (c + 1) := by simp only [kmul_assoc, kmul_left_comm]
      rw [e1, hr, kdiv_mul c hc1]
    · have ia := pt_a ((1 + 1) * s * Fd.inv (u * u + (1 + 1 + (1 + 1 + 1 + 1) * c) * u + 1)) ((u - 1) * Fd.inv (u + 1)) u (u * u + (1 + 1 + (1 + 1 + 1 + 1) * c) * u + 1) c (c * Fd.inv (c + 1))
      have ib := pt_b u c
      rw [ksub_self] at ib
      rw [kdiv_mul _ hq, kdiv_mul _ hu1, kdiv_mul c hc1, two_s s, hs, ib] at ia
      rcases kmul_eq_zero ia with h | h
      · exact keq_of_sub h
      · exact absurd h (kmul_ne (kmul_ne (kmul_ne hu1 hu1) (kmul_ne hq hq)) hc1)
    · rw [kmul_one]; exact hu1
    · show u - 1 * 1 = (u - 1) * Fd.inv (u + 1) * (u + 1 * 1)
      rw [kmul_one, kdiv_mul _ hu1]
  · have hs' : s * Fd.inv (c + 1) * (s * Fd.inv (c + 1)) = c * u * (u * u + (1 + 1 + (1 + 1 + 1 + 1) * c) * u + 1) := by
      generalize u * u + (1 + 1 + (1 + 1 + 1 + 1) * c) * u + 1 = q at hs
      have e1 : s * Fd.inv (c + 1) * (s * Fd.inv (c + 1)) = s * s * (Fd.inv (c + 1) * Fd.inv (c + 1)) := by simp only [kmul_assoc, kmul_left_comm]
      have e2 : c * (c + 1) * ((c + 1) * u * q) * (Fd.inv (c + 1) * Fd.inv (c + 1)) = c * u * q * ((c + 1) * Fd.inv (c + 1)) * ((c + 1) * Fd.inv (c + 1)) := by simp only [kmul_assoc, kmul_left_comm, kmul_comm]
      rw [e1, hs, e2, kinv_mul hc1, kmul_one, kmul_one]
    generalize s * Fd.inv (c + 1) = s' at hs'
    have hu1 : u - 1 ≠ 0 := fun h => by
      rw [keq_of_sub h, at_1] at hs'
      exact hns _ (half _ _ hs')
    refine ⟨-1, (c + 1) * Fd.inv c, ⟨h2, fun r hr => hns (r * c) ?_⟩, Or.inr ⟨rfl, ?_⟩, ⟨(1 + 1) * s' * Fd.inv (u * u + (1 + 1 + (1 + 1 + 1 + 1) * c) * u + 1), (u + 1) * Fd.inv (u - 1)⟩, ?_, ?_, ?_⟩
    · have e1 : r * c * (r * c) = r * r * c * c := by simp only [kmul_assoc, kmul_left_comm]
      rw [e1, hr, kdiv_mul _ hc0, kmul_comm]
    · rw [kdiv_mul _ hc0, kadd_comm]
    · have ia := pt_c ((1 + 1) * s' * Fd.inv (u * u + (1 + 1 + (1 + 1 + 1 + 1) * c) * u + 1)) ((u + 1) * Fd.inv (u - 1)) u (u * u + (1 + 1 + (1 + 1 + 1 + 1) * c) * u + 1) c ((c + 1) * Fd.inv c)
      have ib := pt_d u c
      rw [ksub_self] at ib
      rw [kdiv_mul _ hq, kdiv_mul _ hu1, kdiv_mul _ hc0, two_s s', hs', ib] at ia
      rcases kmul_eq_zero ia with h | h
      · exact keq_of_sub h
      · exact absurd h (kmul_ne (kmul_ne (kmul_ne hu1 hu1) (kmul_ne hq hq)) hc0)
    · rw [kmul_one]; exact hu1
    · show u - -1 * 1 = (u + 1) * Fd.inv (u - 1) * (u + -1 * 1)
      rw [kmul_one, ksub_neg]
      exact (kdiv_mul _ hu1).symm
/-- two scalars change places -/
theorem ladder_comm {c : K} (h2 : (1 + 1 : K) ≠ 0) (hns : ∀ s : K, s * s ≠ c * (c + 1)) (hd : ∀ z : K, (∃ s : K, s * s = z) ∨ ∃ s : K, s * s = c * (c + 1) * z) (z : (Nat → Nat) → K → K) (k : Nat) (hz : ∀ bit v, z bit v = (ladK c v bit (k + 1) ⟨1, 0, v, 1⟩).x * Fd.inv (ladK c v bit (k + 1) ⟨1, 0, v, 1⟩).z)
    (hz0 : ∀ bit, z bit 0 = 0) (a b : Nat → Nat) (ha : ∀ k, a k ≤ 1) (hb : ∀ k, b k ≤ 1) (ha0 : a 0 = 0) (hb0 : b 0 = 0) (u : K) : z a (z b u) = z b (z a u) := by
  by_cases hu : u = 0
  · rw [hu, hz0, hz0, hz0]
  · obtain ⟨e, d, g, hs, P, hP, h0⟩ := place_point h2 hns hd u
    rw [ladder_twice g hs hu hP h0 z (k + 1) hz hz0 a b ha hb (numB_even a ha0 k 0), ladder_twice g hs hu hP h0 z (k + 1) hz hz0 b a hb ha (numB_even b hb0 k 0), Nat.mul_comm]
end
end Go.Proofs.Ytdikkdediofieaa
