/- The numbers below 2^255 - 19 are a field; in it two scalars of the ladder change places. No program is run here. -/
import Derived.Test.YtdikkdediofieaaFI
import Derived.Test.YtdikkdediofieaaFD
namespace Go.Proofs.Ytdikkdediofieaa
theorem pows : ∃ k, 8 * k + 5 = 57896044618658097711785492504343953926634992332820282019728792003956564819949 ∧ pw 57896044618658097711785492504343953926634992332820282019728792003956564819949 14802493890 255 (4 * k + 2) = 57896044618658097711785492504343953926634992332820282019728792003956564819949 - 1 :=
  ⟨7237005577332262213973186563042994240829374041602535252466099000494570602493, by decide, by decide +kernel⟩
theorem iSq : fmul 19681161376707505956807079304988542015446066515923890162744021073123829784752 19681161376707505956807079304988542015446066515923890162744021073123829784752 = 57896044618658097711785492504343953926634992332820282019728792003956564819949 - 1 := by decide +kernel
theorem negSq : fmul (57896044618658097711785492504343953926634992332820282019728792003956564819949 - 1) (57896044618658097711785492504343953926634992332820282019728792003956564819949 - 1) = 1 := by decide +kernel
theorem nVal : fmul 121665 (fadd 121665 1) = 14802493890 := by decide +kernel
theorem fmul_mod (a b : Nat) : fmul (a % 57896044618658097711785492504343953926634992332820282019728792003956564819949) (b % 57896044618658097711785492504343953926634992332820282019728792003956564819949) = a * b % 57896044618658097711785492504343953926634992332820282019728792003956564819949 := (Nat.mul_mod _ _ _).symm
theorem pow_fmul (z m n : Nat) : fmul (z ^ m % 57896044618658097711785492504343953926634992332820282019728792003956564819949) (z ^ n % 57896044618658097711785492504343953926634992332820282019728792003956564819949) = z ^ (m + n) % 57896044618658097711785492504343953926634992332820282019728792003956564819949 := by rw [fmul_mod, Nat.pow_add]
theorem one_or_neg (t : Nat) (h : t < 57896044618658097711785492504343953926634992332820282019728792003956564819949) (ht : fmul t t = 1) : t = 1 ∨ t = 57896044618658097711785492504343953926634992332820282019728792003956564819949 - 1 := by
  have h0 : t ≠ 0 := by rintro rfl; cases ht
  have hd : 57896044618658097711785492504343953926634992332820282019728792003956564819949 ∣ t * t - 1 := dvd_of_mod (a := 1) (b := t * t) ht
  have e : t * t - 1 = (t + 1) * (t - 1) := by
    obtain ⟨m, rfl⟩ : ∃ m, t = m + 1 := ⟨t - 1, by omega⟩
    have h1 : (m + 1) * (m + 1) = m * m + 2 * m + 1 := by rw [Nat.add_mul, Nat.mul_add]; omega
    have h2 : (m + 1 + 1) * m = m * m + 2 * m := by rw [Nat.add_mul, Nat.add_mul]; omega
    rw [Nat.add_sub_cancel, h1, h2]
    omega
  rw [e] at hd
  rcases prmP.euclid hd with h1 | h1
  · have := Nat.le_of_dvd (by omega) h1
    exact Or.inr (by omega)
  · rcases Nat.eq_zero_or_pos (t - 1) with h2 | h2
    · exact Or.inl (by omega)
    · have := Nat.le_of_dvd h2 h1
      omega
/-- what has the right power is a square -/
theorem sqrt_of (k : Nat) (z : Nat) (hz : z < 57896044618658097711785492504343953926634992332820282019728792003956564819949) (h : z ^ (4 * k + 2) % 57896044618658097711785492504343953926634992332820282019728792003956564819949 = 1) : ∃ s, s < 57896044618658097711785492504343953926634992332820282019728792003956564819949 ∧ fmul s s = z := by
  have ht : fmul (z ^ (2 * k + 1) % 57896044618658097711785492504343953926634992332820282019728792003956564819949) (z ^ (2 * k + 1) % 57896044618658097711785492504343953926634992332820282019728792003956564819949) = 1 := by rw [pow_fmul, show 2 * k + 1 + (2 * k + 1) = 4 * k + 2 from by omega, h]
  have hr : fmul (z ^ (k + 1) % 57896044618658097711785492504343953926634992332820282019728792003956564819949) (z ^ (k + 1) % 57896044618658097711785492504343953926634992332820282019728792003956564819949) = fmul z (z ^ (2 * k + 1) % 57896044618658097711785492504343953926634992332820282019728792003956564819949) := by
    rw [pow_fmul, show k + 1 + (k + 1) = 1 + (2 * k + 1) from by omega, ← pow_fmul, Nat.pow_one, Nat.mod_eq_of_lt hz]
  have hlt : z ^ (2 * k + 1) % 57896044618658097711785492504343953926634992332820282019728792003956564819949 < 57896044618658097711785492504343953926634992332820282019728792003956564819949 := Nat.mod_lt _ (by omega)
  have hrl : z ^ (k + 1) % 57896044618658097711785492504343953926634992332820282019728792003956564819949 < 57896044618658097711785492504343953926634992332820282019728792003956564819949 := Nat.mod_lt _ (by omega)
  generalize z ^ (2 * k + 1) % 57896044618658097711785492504343953926634992332820282019728792003956564819949 = t at ht hr hlt
  generalize z ^ (k + 1) % 57896044618658097711785492504343953926634992332820282019728792003956564819949 = r at hr hrl
  rcases one_or_neg t hlt ht with rfl | rfl
  · exact ⟨r, hrl, by rw [hr, fmul_one z hz]⟩
  · refine ⟨fmul r 19681161376707505956807079304988542015446066515923890162744021073123829784752, fmul_lt _ _, ?_⟩
    have e : fmul (fmul r 19681161376707505956807079304988542015446066515923890162744021073123829784752) (fmul r 19681161376707505956807079304988542015446066515923890162744021073123829784752) = fmul (fmul r r) (fmul 19681161376707505956807079304988542015446066515923890162744021073123829784752 19681161376707505956807079304988542015446066515923890162744021073123829784752) := by
      rw [← fmul_assoc, fmul_comm 19681161376707505956807079304988542015446066515923890162744021073123829784752 (fmul r 19681161376707505956807079304988542015446066515923890162744021073123829784752), ← fmul_assoc r 19681161376707505956807079304988542015446066515923890162744021073123829784752 19681161376707505956807079304988542015446066515923890162744021073123829784752, fmul_assoc]
    rw [e, hr, iSq, ← fmul_assoc, negSq, fmul_one z hz]
theorem pw_P (a n : Nat) (h : n < 2 ^ 255) : pw 57896044618658097711785492504343953926634992332820282019728792003956564819949 a 255 n = a ^ n % 57896044618658097711785492504343953926634992332820282019728792003956564819949 := pw_eq 57896044618658097711785492504343953926634992332820282019728792003956564819949 a 255 n h
theorem no_square (s : Nat) (hs : s < 57896044618658097711785492504343953926634992332820282019728792003956564819949) : fmul s s ≠ 14802493890 := by
  intro h
  obtain ⟨k, hk, hn⟩ := pows
  rw [pw_P _ _ (by omega)] at hn
  have h0 : s ≠ 0 := by rintro rfl; rw [zero_fmul] at h; cases h
  have hf := fermat_e (e := 8 * k + 3) prmP (by omega) (not_dvd_P hs h0)
  have e : 14802493890 ^ (4 * k + 2) % 57896044618658097711785492504343953926634992332820282019728792003956564819949 = s ^ (8 * k + 3 + 1) % 57896044618658097711785492504343953926634992332820282019728792003956564819949 := by
    rw [← h]
    show (s * s % 57896044618658097711785492504343953926634992332820282019728792003956564819949) ^ (4 * k + 2) % 57896044618658097711785492504343953926634992332820282019728792003956564819949 = _
    rw [← Nat.pow_mod, ← Nat.pow_two, ← Nat.pow_mul]
    congr 2
    omega
  rw [e, hf] at hn
  omega
theorem square_or (z : Nat) (hz : z < 57896044618658097711785492504343953926634992332820282019728792003956564819949) : (∃ s, s < 57896044618658097711785492504343953926634992332820282019728792003956564819949 ∧ fmul s s = z) ∨ ∃ s, s < 57896044618658097711785492504343953926634992332820282019728792003956564819949 ∧ fmul s s = fmul 14802493890 z := by
  obtain ⟨k, hk, hn⟩ := pows
  rw [pw_P _ _ (by omega)] at hn
  by_cases h0 : z = 0
  · exact Or.inl ⟨0, by omega, by rw [h0]; rfl⟩
  · have hf := fermat_e (e := 8 * k + 3) prmP (by omega) (not_dvd_P hz h0)
    have hx : fmul (z ^ (4 * k + 2) % 57896044618658097711785492504343953926634992332820282019728792003956564819949) (z ^ (4 * k + 2) % 57896044618658097711785492504343953926634992332820282019728792003956564819949) = 1 := by
      rw [pow_fmul, show 4 * k + 2 + (4 * k + 2) = 8 * k + 3 + 1 from by omega, hf]
    rcases one_or_neg _ (Nat.mod_lt _ (by omega)) hx with h1 | h1
    · exact Or.inl (sqrt_of k z hz h1)
    · refine Or.inr (sqrt_of k _ (fmul_lt _ _) ?_)
      show (14802493890 * z % 57896044618658097711785492504343953926634992332820282019728792003956564819949) ^ (4 * k + 2) % 57896044618658097711785492504343953926634992332820282019728792003956564819949 = 1
      rw [← Nat.pow_mod, Nat.mul_pow, ← fmul_mod, h1, hn, negSq]
attribute [local irreducible] finv
/-- the field -/
structure E where
  val : Nat
  property : val < 57896044618658097711785492504343953926634992332820282019728792003956564819949
theorem E.ext {a b : E} (h : a.val = b.val) : a = b := by
  cases a
  cases b
  simp only [E.mk.injEq]
  exact h
theorem zi_lt (n : Int) : (n % 57896044618658097711785492504343953926634992332820282019728792003956564819949).toNat < 57896044618658097711785492504343953926634992332820282019728792003956564819949 := by omega
theorem ofInt_val (n : Int) : (((n % 57896044618658097711785492504343953926634992332820282019728792003956564819949).toNat : Nat) : Int) = n % 57896044618658097711785492504343953926634992332820282019728792003956564819949 := by omega
theorem fadd_assoc (a b c : Nat) : fadd (fadd a b) c = fadd a (fadd b c) := by
  unfold fadd
  rw [Nat.mod_add_mod, Nat.add_mod_mod, Nat.add_assoc]
theorem fmul_add (a b c : Nat) : fmul a (fadd b c) = fadd (fmul a b) (fmul a c) := by
  unfold fmul fadd
  rw [← Nat.add_mod, ← Nat.mul_add, Nat.mul_mod, Nat.mod_mod, ← Nat.mul_mod]
def zE : E := ⟨0, by omega⟩
def oE : E := ⟨1, by omega⟩
def invE (a : E) : E := ⟨finv a.val, finv_lt _⟩
def mulE (a b : E) : E := ⟨fmul a.val b.val, fmul_lt _ _⟩
def ziE (n : Int) : E := ⟨(n % 57896044618658097711785492504343953926634992332820282019728792003956564819949).toNat, zi_lt n⟩
theorem inv_mul_E (a : E) (h : a ≠ zE) : mulE a (invE a) = oE := E.ext (fmul_finv a.val a.property (fun h0 => h (E.ext h0)))
theorem inv_zero_E : invE zE = zE := E.ext finv_zero
theorem zi_one_E : ziE 1 = oE := E.ext (by decide)
instance : Fd E where
  add a b := ⟨fadd a.val b.val, fadd_lt _ _⟩
  mul := mulE
  neg a := ⟨(57896044618658097711785492504343953926634992332820282019728792003956564819949 - a.val) % 57896044618658097711785492504343953926634992332820282019728792003956564819949, Nat.mod_lt _ (by omega)⟩
  inv := invE
  zero := zE
  one := oE
  zi := ziE
  add_comm a b := E.ext (by show fadd _ _ = fadd _ _; unfold fadd; rw [Nat.add_comm])
  add_assoc a b c := E.ext (fadd_assoc _ _ _)
  zero_add a := E.ext (zero_fadd _ a.property)
  add_neg a := E.ext (by
    show fadd a.val ((57896044618658097711785492504343953926634992332820282019728792003956564819949 - a.val) % 57896044618658097711785492504343953926634992332820282019728792003956564819949) = 0
    unfold fadd
    have := a.property
    rw [Nat.add_mod_mod, show a.val + (57896044618658097711785492504343953926634992332820282019728792003956564819949 - a.val) = 57896044618658097711785492504343953926634992332820282019728792003956564819949 from by omega])
  mul_comm a b := E.ext (fmul_comm _ _)
  mul_assoc a b c := E.ext (fmul_assoc _ _ _).symm
  one_mul a := E.ext (by show fmul 1 a.val = a.val; rw [fmul_comm, fmul_one _ a.property])
  mul_add a b c := E.ext (fmul_add _ _ _)
  zi_add m n := E.ext (by
    show ((m + n) % 57896044618658097711785492504343953926634992332820282019728792003956564819949 : Int).toNat = ((m % 57896044618658097711785492504343953926634992332820282019728792003956564819949 : Int).toNat + (n % 57896044618658097711785492504343953926634992332820282019728792003956564819949 : Int).toNat) % 57896044618658097711785492504343953926634992332820282019728792003956564819949
    omega)
  zi_mul m n := E.ext (by
    show ((m * n) % 57896044618658097711785492504343953926634992332820282019728792003956564819949 : Int).toNat = ((m % 57896044618658097711785492504343953926634992332820282019728792003956564819949 : Int).toNat * (n % 57896044618658097711785492504343953926634992332820282019728792003956564819949 : Int).toNat) % 57896044618658097711785492504343953926634992332820282019728792003956564819949
    refine Int.ofNat_inj.1 ?_
    rw [ofInt_val, Int.natCast_emod, Int.natCast_mul, ofInt_val, ofInt_val]
    exact Int.mul_emod _ _ _)
  zi_one := zi_one_E
  inv_mul := inv_mul_E
  inv_zero := inv_zero_E
  one_ne h := by
    have h1 : (1 : Nat) = 0 := congrArg E.val h
    omega
theorem add_val (a b : E) : (a + b).val = fadd a.val b.val := rfl
theorem mul_val (a b : E) : (a * b).val = fmul a.val b.val := rfl
theorem sub_val (a b : E) : (a - b).val = fsub a.val b.val := by
  show fadd a.val ((57896044618658097711785492504343953926634992332820282019728792003956564819949 - b.val) % 57896044618658097711785492504343953926634992332820282019728792003956564819949) = _
  unfold fadd fsub
  rw [Nat.add_mod_mod]
/-- the chapter's constant -/
def cE : E := ⟨121665, by omega⟩
theorem two_E : (1 + 1 : E) ≠ 0 := fun h => by
  have h1 : fadd 1 1 = 0 := congrArg E.val h
  exact absurd h1 (by decide)
theorem cE_val : (cE * (cE + 1)).val = 14802493890 := nVal
theorem ns_E (s : E) : s * s ≠ cE * (cE + 1) := fun h => no_square s.val s.property (by
  have h1 := congrArg E.val h
  rw [cE_val] at h1
  exact h1)
theorem sq_E (z : E) : (∃ s : E, s * s = z) ∨ ∃ s : E, s * s = cE * (cE + 1) * z := by
  rcases square_or z.val z.property with ⟨s, hs, h⟩ | ⟨s, hs, h⟩
  · exact Or.inl ⟨⟨s, hs⟩, E.ext h⟩
  · refine Or.inr ⟨⟨s, hs⟩, E.ext ?_⟩
    rw [mul_val (cE * (cE + 1)), cE_val]
    exact h
def toTw (s : Two) (h : s.Ok) : Tw E := ⟨⟨s.x, h.1⟩, ⟨s.z, h.2.1⟩, ⟨s.w, h.2.2.1⟩, ⟨s.t, h.2.2.2⟩⟩
theorem toTw_swap (b : Nat) (s : Two) (h : s.Ok) : swapK b (toTw s h) = toTw (swapT b s) (swapT_ok h) := by
  unfold swapK
  by_cases hb : b = 1
  · rw [if_pos hb]
    have e : swapT b s = ⟨s.w, s.t, s.x, s.z⟩ := if_pos hb
    have aux : ∀ (s' : Two) (h' : s'.Ok), s' = ⟨s.w, s.t, s.x, s.z⟩ → toTw s' h' = ⟨⟨s.w, h.2.2.1⟩, ⟨s.t, h.2.2.2⟩, ⟨s.x, h.1⟩, ⟨s.z, h.2.1⟩⟩ := by rintro s' h' rfl; rfl
    exact (aux _ _ e).symm
  · rw [if_neg hb]
    have e : swapT b s = s := if_neg hb
    have aux : ∀ (s' : Two) (h' : s'.Ok), s' = s → toTw s' h' = toTw s h := by rintro s' h' rfl; rfl
    exact (aux _ _ e).symm
theorem Tw.same {a b : Tw E} (h1 : a.x = b.x) (h2 : a.z = b.z) (h3 : a.w = b.w) (h4 : a.t = b.t) : a = b := by
  cases a
  cases b
  simp only [Tw.mk.injEq]
  exact ⟨h1, h2, h3, h4⟩
def addE (a b : E) : E := ⟨fadd a.val b.val, fadd_lt _ _⟩
def subE (a b : E) : E := ⟨fsub a.val b.val, fsub_lt _ _⟩
theorem sub_E (a b : E) : a - b = subE a b := E.ext (sub_val a b)
theorem add_E (a b : E) : a + b = addE a b := rfl
theorem mul_E (a b : E) : a * b = mulE a b := rfl
theorem stepK_E (u : E) (s : Tw E) : stepK cE u s =
    ⟨mulE (mulE (addE s.x s.z) (addE s.x s.z)) (mulE (subE s.x s.z) (subE s.x s.z)),
     mulE (subE (mulE (addE s.x s.z) (addE s.x s.z)) (mulE (subE s.x s.z) (subE s.x s.z))) (addE (mulE (addE s.x s.z) (addE s.x s.z)) (mulE cE (subE (mulE (addE s.x s.z) (addE s.x s.z)) (mulE (subE s.x s.z) (subE s.x s.z))))),
     mulE (addE (mulE (subE s.w s.t) (addE s.x s.z)) (mulE (addE s.w s.t) (subE s.x s.z))) (addE (mulE (subE s.w s.t) (addE s.x s.z)) (mulE (addE s.w s.t) (subE s.x s.z))),
     mulE u (mulE (subE (mulE (subE s.w s.t) (addE s.x s.z)) (mulE (addE s.w s.t) (subE s.x s.z))) (subE (mulE (subE s.w s.t) (addE s.x s.z)) (mulE (addE s.w s.t) (subE s.x s.z))))⟩ := by
  simp only [stepK, sub_E, add_E, mul_E]
theorem toTw_step (u : Nat) (hu : u < 57896044618658097711785492504343953926634992332820282019728792003956564819949) (s : Two) (h : s.Ok) : stepK cE ⟨u, hu⟩ (toTw s h) = toTw (stepT u s) (stepT_ok u s) := by
  rw [stepK_E]
  exact Tw.same (E.ext rfl) (E.ext rfl) (E.ext rfl) (E.ext rfl)
theorem toTw_lad (bit : Nat → Nat) (u : Nat) (hu : u < 57896044618658097711785492504343953926634992332820282019728792003956564819949) : ∀ (k : Nat) (s : Two) (h : s.Ok), ladK cE ⟨u, hu⟩ bit k (toTw s h) = toTw (ladF bit u k s) (ladF_ok bit u k s h)
  | 0, _, _ => rfl
  | k + 1, s, h => by
    show ladK cE ⟨u, hu⟩ bit k (swapK (bit k) (stepK cE ⟨u, hu⟩ (swapK (bit k) (toTw s h)))) = _
    rw [toTw_swap, toTw_step, toTw_swap, toTw_lad bit u hu k]
    rfl
/-- what is shared, as an element -/
def shE (bit : Nat → Nat) (v : E) : E := (ladK cE v bit (254 + 1) ⟨1, 0, v, 1⟩).x * Fd.inv (ladK cE v bit (254 + 1) ⟨1, 0, v, 1⟩).z
theorem shE_val (bit : Nat → Nat) (u : Nat) (hu : u < 57896044618658097711785492504343953926634992332820282019728792003956564819949) : (shE bit ⟨u, hu⟩).val = sharedN bit u := by
  have h := toTw_lad bit u hu (254 + 1) ⟨1, 0, u, 1⟩ (start_ok u hu)
  change ladK cE ⟨u, hu⟩ bit (254 + 1) ⟨1, 0, ⟨u, hu⟩, 1⟩ = _ at h
  unfold shE
  rw [h]
  rfl
theorem sharedN_lt (bit : Nat → Nat) (u : Nat) : sharedN bit u < 57896044618658097711785492504343953926634992332820282019728792003956564819949 := fmul_lt _ _
theorem shE_zero (bit : Nat → Nat) : shE bit 0 = 0 := by
  have e : (0 : E) = ⟨0, by omega⟩ := rfl
  rw [e]
  exact E.ext (by rw [shE_val, sharedN_zero])
theorem sharedN_comm (a b : Nat → Nat) (ha : ∀ k, a k ≤ 1) (hb : ∀ k, b k ≤ 1) (ha0 : a 0 = 0) (hb0 : b 0 = 0) (u : Nat) (hu : u < 57896044618658097711785492504343953926634992332820282019728792003956564819949) : sharedN a (sharedN b u) = sharedN b (sharedN a u) := by
  have h := ladder_comm two_E ns_E sq_E shE 254 (fun _ _ => rfl) shE_zero a b ha hb ha0 hb0 ⟨u, hu⟩
  have e : ∀ bit, shE bit ⟨u, hu⟩ = ⟨sharedN bit u, sharedN_lt bit u⟩ := fun bit => E.ext (shE_val bit u hu)
  rw [e, e] at h
  have h1 := congrArg E.val h
  rw [shE_val, shE_val] at h1
  exact h1
theorem sharedK_comm (a b u : List UInt8) (ha : a.length = 32) (hb : b.length = 32) : sharedK a (sharedK b u) = sharedK b (sharedK a u) := by
  unfold sharedK
  rw [placeN_lowB _ (sharedN_lt _ _), placeN_lowB _ (sharedN_lt _ _), sharedN_comm _ _ (bitB_le _) (bitB_le _) (kclamp_low a ha 0 (by omega)) (kclamp_low b hb 0 (by omega)) _ (placeN_lt u)]
end Go.Proofs.Ytdikkdediofieaa
