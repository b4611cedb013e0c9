/- causeyref03.Quarter: walked. -/
import Derived.Test.YtfhjokbbaoldiaaTO
import Derived.Test.YtfhjokbbaoldiaaHG2
namespace Go.Proofs.Ytfhjokbbaoldiaa
open Go.RowKit
/-- in the midst of a quarter: the words, the room for the answer, all else as it was -/
structure QS (w W : World) (l : List UInt32) : Prop where
  hA : Has W w.heap.size 50 (ws l)
  hB : Has W (w.heap.size + 1) 50 z16
  hb : Below w.heap.size w W
theorem QS.drew {w W : World} {l : List UInt32} (h : QS w W l) : QS w W.drew l := ⟨h.hA.drew, h.hB.drew, h.hb.drew⟩
theorem QS.set {w W : World} {l : List UInt32} (h : QS w W l) (i : Nat) (x : UInt32) : QS w (W.setCell ⟨w.heap.size, i, none⟩ (W32 x)) (l.set i x) :=
  ⟨h.hA.setW i x, h.hB.other (p := ⟨w.heap.size, i, none⟩) (by show w.heap.size + 1 ≠ w.heap.size; omega) _, h.hb.setCell (p := ⟨w.heap.size, i, none⟩) (Nat.le_refl _) _⟩
/-- the words at four places -/
structure At4 (l : List UInt32) (a b c d : Nat) (xa xb xc xd : UInt32) : Prop where
  len : l.length = 16
  a : l.getD a 0 = xa
  b : l.getD b 0 = xb
  c : l.getD c 0 = xc
  d : l.getD d 0 = xd
theorem getD_setW (l : List UInt32) (j i : Nat) (x : UInt32) (h : j < l.length) : (l.set j x).getD i 0 = if j = i then x else l.getD i 0 := by
  rw [List.getD_eq_getElem?_getD, List.getD_eq_getElem?_getD, List.getElem?_set]
  by_cases hj : j = i
  · rw [if_pos hj, if_pos hj, if_pos (by omega)]; rfl
  · rw [if_neg hj, if_neg hj]
section
variable {l : List UInt32} {a b c d : Nat} {xa xb xc xd : UInt32}
theorem At4.setA (h : At4 l a b c d xa xb xc xd) (y : UInt32) (h1 : a < 16) (h2 : a ≠ b) (h3 : a ≠ c) (h4 : a ≠ d) : At4 (l.set a y) a b c d y xb xc xd :=
  have hl := h.len
  ⟨by simp [hl], by rw [getD_setW _ _ _ _ (by omega), if_pos rfl], by rw [getD_setW _ _ _ _ (by omega), if_neg h2, h.b], by rw [getD_setW _ _ _ _ (by omega), if_neg h3, h.c], by rw [getD_setW _ _ _ _ (by omega), if_neg h4, h.d]⟩
theorem At4.setB (h : At4 l a b c d xa xb xc xd) (y : UInt32) (h1 : b < 16) (h2 : a ≠ b) (h3 : b ≠ c) (h4 : b ≠ d) : At4 (l.set b y) a b c d xa y xc xd :=
  have hl := h.len
  ⟨by simp [hl], by rw [getD_setW _ _ _ _ (by omega), if_neg h2.symm, h.a], by rw [getD_setW _ _ _ _ (by omega), if_pos rfl], by rw [getD_setW _ _ _ _ (by omega), if_neg h3, h.c], by rw [getD_setW _ _ _ _ (by omega), if_neg h4, h.d]⟩
theorem At4.setC (h : At4 l a b c d xa xb xc xd) (y : UInt32) (h1 : c < 16) (h2 : a ≠ c) (h3 : b ≠ c) (h4 : c ≠ d) : At4 (l.set c y) a b c d xa xb y xd :=
  have hl := h.len
  ⟨by simp [hl], by rw [getD_setW _ _ _ _ (by omega), if_neg h2.symm, h.a], by rw [getD_setW _ _ _ _ (by omega), if_neg h3.symm, h.b], by rw [getD_setW _ _ _ _ (by omega), if_pos rfl], by rw [getD_setW _ _ _ _ (by omega), if_neg h4, h.d]⟩
theorem At4.setD (h : At4 l a b c d xa xb xc xd) (y : UInt32) (h1 : d < 16) (h2 : a ≠ d) (h3 : b ≠ d) (h4 : c ≠ d) : At4 (l.set d y) a b c d xa xb xc y :=
  have hl := h.len
  ⟨by simp [hl], by rw [getD_setW _ _ _ _ (by omega), if_neg h2.symm, h.a], by rw [getD_setW _ _ _ _ (by omega), if_neg h3.symm, h.b], by rw [getD_setW _ _ _ _ (by omega), if_neg h4.symm, h.c], by rw [getD_setW _ _ _ _ (by omega), if_pos rfl]⟩
end
theorem sets_q4 (l : List UInt32) (a b c d : Nat) (hbc : b ≠ c) (hbd : b ≠ d) (hcd : c ≠ d) (a1 b1 c1 d1 a2 b2 c2 d2 : UInt32) :
    (((((((l.set a a1).set d d1).set c c1).set b b1).set a a2).set d d2).set c c2).set b b2 = (((l.set a a2).set b b2).set c c2).set d d2 := by
  apply List.ext_getElem?
  intro i
  simp only [List.getElem?_set, List.length_set]
  by_cases h1 : b = i
  · subst h1; simp [hbc.symm, hbd.symm]
  · by_cases h2 : c = i
    · subst h2; simp [h1, hcd.symm]
    · by_cases h3 : d = i
      · subst h3; simp [h1, h2]
      · by_cases h4 : a = i
        · subst h4; simp [h1, h2, h3]
        · simp [h1, h2, h3, h4]
theorem div_less (x : UInt32) : ((x.toNat : Nat) : Int) < 4294967296 := by have := lt32 x; omega
set_option maxRecDepth 100000 in
set_option maxHeartbeats 2000000 in
theorem refQuarter_any (l : List UInt32) (hl : l.length = 16) (a b c d : Nat) (ha : a < 16) (hb : b < 16) (hc : c < 16) (hd : d < 16) (hab : a ≠ b) (hac : a ≠ c) (had : a ≠ d) (hbc : b ≠ c) (hbd : b ≠ d) (hcd : c ≠ d) (w : World) :
    Calls Try.prog 42 #[.agg (ws l), .int .i64 (a : Int), .int .i64 (b : Int), .int .i64 (c : Int), .int .i64 (d : Int)] w
      fun e w' => e = .returned (.agg (ws (q4 l a b c d))) ∧ Below w.heap.size w w' := by
  have E : QS w ((w.alloc (.cells (ws l) 50)).alloc (.cells z16 50)) l :=
    ⟨(Has.fresh w 50 _).alloc _, heap_alloc2_new w _ _, ((Below.refl _ _).alloc (Nat.le_refl _) _).alloc (by simp) _⟩
  have hq4 : q4 l a b c d = (((l.set a (qr (l.getD a 0) (l.getD b 0) (l.getD c 0) (l.getD d 0)).a).set b (qr (l.getD a 0) (l.getD b 0) (l.getD c 0) (l.getD d 0)).b).set c (qr (l.getD a 0) (l.getD b 0) (l.getD c 0) (l.getD d 0)).c).set d (qr (l.getD a 0) (l.getD b 0) (l.getD c 0) (l.getD d 0)).d := rfl
  have F : At4 l a b c d (l.getD a 0) (l.getD b 0) (l.getD c 0) (l.getD d 0) := ⟨hl, rfl, rfl, rfl, rfl⟩
  generalize l.getD a 0 = xa at F hq4
  generalize l.getD b 0 = xb at F hq4
  generalize l.getD c 0 = xc at F hq4
  generalize l.getD d 0 = xd at F hq4
  have HQ := Lib.hid hq4
  clear hq4 hl
  have ja : ¬ ((16 : Int) ≤ (a : Int)) := by omega
  have jb : ¬ ((16 : Int) ≤ (b : Int)) := by omega
  have jc : ¬ ((16 : Int) ≤ (c : Int)) := by omega
  have jd : ¬ ((16 : Int) ≤ (d : Int)) := by omega
  go_enter Try.func42, Try.ntmps42
  go_upto_region 1 with fail
  change Code.wp _ _ _ _ ((w.alloc (.cells (ws l) 50)).alloc (.cells z16 50))
  generalize (w.alloc (.cells (ws l) 50)).alloc (.cells z16 50) = w0 at E ⊢
  obtain ⟨l0, hl0⟩ : ∃ l0, l = l0 := ⟨_, rfl⟩
  rw [hl0] at E F
  have L0 := Lib.hid hl0
  clear hl0

  -- region 1
  have ct := E.hA.word a (by rw [F.len]; omega)
  have co := E.hA.word b (by rw [F.len]; omega)
  have ft := E.hA.frozen a
  rw [F.a] at ct
  rw [F.b] at co
  obtain ⟨a1, ha1⟩ : ∃ y, xa + xb = y := ⟨_, rfl⟩
  have hs := add32 xa xb
  rw [ha1] at hs
  have HS := Lib.hid hs
  have Ha1 := Lib.hid ha1
  clear hs ha1
  go_region
  rw [HS.out]
  replace E := (E.set a a1).drew
  generalize (w0.setCell ⟨w.heap.size, a, none⟩ (W32 a1)).drew = w1 at E ⊢
  clear ct co ft HS w0
  replace F := F.setA a1 ha hab hac had
  obtain ⟨l1, hl1⟩ : ∃ y, l0.set a a1 = y := ⟨_, rfl⟩
  rw [hl1] at E F
  have L1 := Lib.hid hl1
  clear hl1
  go_upto_region 2 with fail
  -- region 2
  have ct := E.hA.word d (by rw [F.len]; omega)
  have co := E.hA.word a (by rw [F.len]; omega)
  have ft := E.hA.frozen d
  rw [F.d] at ct
  rw [F.a] at co
  have hx := xor32 xd a1
  have hc := left_any (xd ^^^ a1) 16 (by omega) (by omega) w1.drew
  simp only [Int.reduceToNat] at hc
  obtain ⟨d1, hd1⟩ : ∃ y, rotl (xd ^^^ a1) 16 = y := ⟨_, rfl⟩
  rw [hd1] at hc
  obtain ⟨z, hz⟩ : ∃ z, xd ^^^ a1 = z := ⟨_, rfl⟩
  rw [hz] at hc hx
  have HS := Lib.hid hx
  have HC := Lib.hid hc
  have Hd1 := Lib.hid hd1
  clear hx hc hd1 hz
  refine wp_region_noPanic ?_
  refine wp_region_gate (c := 7) (S := fun w' => w'.cell? ⟨w.heap.size, d, none⟩ = some (W32 xd) ∧ w'.cell? ⟨w.heap.size, a, none⟩ = some (W32 a1)) (by kernel_rfl) ⟨ct, co⟩ (fun hS => ?_)
  refine takeP hS 0 20 (.int .i64 (d : Int)) _ rfl (by kernel_rfl) (by kernel_rfl) (by kernel_rfl) rfl (fun _ _ _ h => h) rfl rfl (fun w' => by go_simp) ?_
  simp only [Act.put, List.setIfInBounds_toArray, List.set_cons_zero, List.set_cons_succ]
  refine takeP hS 1 21 (.int .i64 (d : Int)) _ rfl (by kernel_rfl) (by kernel_rfl) (by kernel_rfl) rfl (fun _ _ _ h => h) rfl rfl (fun w' => by go_simp) ?_
  simp only [Act.put, List.setIfInBounds_toArray, List.set_cons_zero, List.set_cons_succ]
  refine takeP hS 2 22 (.pointer (some ⟨w.heap.size, d, none⟩)) _ rfl (by kernel_rfl) (by kernel_rfl) (by kernel_rfl) rfl (fun _ _ _ h => h) rfl rfl (fun w' => by go_simp) ?_
  simp only [Act.put, List.setIfInBounds_toArray, List.set_cons_zero, List.set_cons_succ]
  refine takeG hS 3 23 (W32 xd) _ rfl (by kernel_rfl) (by kernel_rfl) (by kernel_rfl) (by kernel_rfl) (fun _ _ _ h => h) rfl rfl (fun w' h => by obtain ⟨k1, k2⟩ := h; go_simp) ?_
  simp only [Act.put, List.setIfInBounds_toArray, List.set_cons_zero, List.set_cons_succ]
  refine takeP hS 4 24 (.int .i64 (a : Int)) _ rfl (by kernel_rfl) (by kernel_rfl) (by kernel_rfl) rfl (fun _ _ _ h => h) rfl rfl (fun w' => by go_simp) ?_
  simp only [Act.put, List.setIfInBounds_toArray, List.set_cons_zero, List.set_cons_succ]
  refine takeP hS 5 25 (.pointer (some ⟨w.heap.size, a, none⟩)) _ rfl (by kernel_rfl) (by kernel_rfl) (by kernel_rfl) rfl (fun _ _ _ h => h) rfl rfl (fun w' => by go_simp) ?_
  simp only [Act.put, List.setIfInBounds_toArray, List.set_cons_zero, List.set_cons_succ]
  refine takeG hS 6 26 (W32 a1) _ rfl (by kernel_rfl) (by kernel_rfl) (by kernel_rfl) (by kernel_rfl) (fun _ _ _ h => h) rfl rfl (fun w' h => by obtain ⟨k1, k2⟩ := h; go_simp) ?_
  simp only [Act.put, List.setIfInBounds_toArray, List.set_cons_zero, List.set_cons_succ]
  refine gateVal 27 (W32 z) w1.drew _ (by kernel_rfl) rfl rfl rfl (by go_simp; exact HS.out) ?_
  simp only [Act.put, List.setIfInBounds_toArray, List.set_cons_zero, List.set_cons_succ]
  refine call0 8 28 54 #[W32 z, .int .i64 16] _ (by kernel_rfl) rfl rfl rfl (by go_simp) HC.out ?_
  rintro e w' ⟨rfl, rfl⟩
  refine ⟨_, rfl, ?_⟩
  simp only [Act.put, List.setIfInBounds_toArray, List.set_cons_zero, List.set_cons_succ]
  clear hS
  refine take0 9 29 (.pointer (some ⟨w.heap.size, d, none⟩)) _ rfl (by kernel_rfl) (by kernel_rfl) (by kernel_rfl) (fun _ _ _ h => h) rfl rfl (fun w' => by go_simp) ?_
  simp only [Act.put, List.setIfInBounds_toArray, List.set_cons_zero, List.set_cons_succ]
  have ct2 : w1.drew.cell? ⟨w.heap.size, d, none⟩ = some (W32 xd) := ct
  have ft2 : w1.drew.frozen? ⟨w.heap.size, d, none⟩ = false := ft
  refine only0 10 (w1.drew.setCell ⟨w.heap.size, d, none⟩ (W32 d1)) _ (by kernel_rfl) rfl rfl rfl (by go_simp) ?_
  simp only [Act.put]
  refine wpAny_end (by kernel_rfl) ?_ _
  refine NoPanic.normal ?_
  clear ct2 ft2 HC
  replace E := E.drew.set d d1
  generalize w1.drew.setCell ⟨w.heap.size, d, none⟩ (W32 d1) = w2 at E ⊢
  clear ct co ft HS w1
  replace F := F.setD d1 hd had hbd hcd
  obtain ⟨l2, hl2⟩ : ∃ y, l1.set d d1 = y := ⟨_, rfl⟩
  rw [hl2] at E F
  have L2 := Lib.hid hl2
  clear hl2
  go_upto_region 3 with fail
  -- region 3
  have ct := E.hA.word c (by rw [F.len]; omega)
  have co := E.hA.word d (by rw [F.len]; omega)
  have ft := E.hA.frozen c
  rw [F.c] at ct
  rw [F.d] at co
  obtain ⟨c1, hc1⟩ : ∃ y, xc + d1 = y := ⟨_, rfl⟩
  have hs := add32 xc d1
  rw [hc1] at hs
  have HS := Lib.hid hs
  have Hc1 := Lib.hid hc1
  clear hs hc1
  go_region
  rw [HS.out]
  replace E := (E.set c c1).drew
  generalize (w2.setCell ⟨w.heap.size, c, none⟩ (W32 c1)).drew = w3 at E ⊢
  clear ct co ft HS w2
  replace F := F.setC c1 hc hac hbc hcd
  obtain ⟨l3, hl3⟩ : ∃ y, l2.set c c1 = y := ⟨_, rfl⟩
  rw [hl3] at E F
  have L3 := Lib.hid hl3
  clear hl3
  go_upto_region 4 with fail
  -- region 4
  have ct := E.hA.word b (by rw [F.len]; omega)
  have co := E.hA.word c (by rw [F.len]; omega)
  have ft := E.hA.frozen b
  rw [F.b] at ct
  rw [F.c] at co
  have hx := xor32 xb c1
  have hc := left_any (xb ^^^ c1) 12 (by omega) (by omega) w3.drew
  simp only [Int.reduceToNat] at hc
  obtain ⟨b1, hb1⟩ : ∃ y, rotl (xb ^^^ c1) 12 = y := ⟨_, rfl⟩
  rw [hb1] at hc
  obtain ⟨z, hz⟩ : ∃ z, xb ^^^ c1 = z := ⟨_, rfl⟩
  rw [hz] at hc hx
  have HS := Lib.hid hx
  have HC := Lib.hid hc
  have Hb1 := Lib.hid hb1
  clear hx hc hb1 hz
  refine wp_region_noPanic ?_
  refine wp_region_gate (c := 7) (S := fun w' => w'.cell? ⟨w.heap.size, b, none⟩ = some (W32 xb) ∧ w'.cell? ⟨w.heap.size, c, none⟩ = some (W32 c1)) (by kernel_rfl) ⟨ct, co⟩ (fun hS => ?_)
  refine takeP hS 0 39 (.int .i64 (b : Int)) _ rfl (by kernel_rfl) (by kernel_rfl) (by kernel_rfl) rfl (fun _ _ _ h => h) rfl rfl (fun w' => by go_simp) ?_
  simp only [Act.put, List.setIfInBounds_toArray, List.set_cons_zero, List.set_cons_succ]
  refine takeP hS 1 40 (.int .i64 (b : Int)) _ rfl (by kernel_rfl) (by kernel_rfl) (by kernel_rfl) rfl (fun _ _ _ h => h) rfl rfl (fun w' => by go_simp) ?_
  simp only [Act.put, List.setIfInBounds_toArray, List.set_cons_zero, List.set_cons_succ]
  refine takeP hS 2 41 (.pointer (some ⟨w.heap.size, b, none⟩)) _ rfl (by kernel_rfl) (by kernel_rfl) (by kernel_rfl) rfl (fun _ _ _ h => h) rfl rfl (fun w' => by go_simp) ?_
  simp only [Act.put, List.setIfInBounds_toArray, List.set_cons_zero, List.set_cons_succ]
  refine takeG hS 3 42 (W32 xb) _ rfl (by kernel_rfl) (by kernel_rfl) (by kernel_rfl) (by kernel_rfl) (fun _ _ _ h => h) rfl rfl (fun w' h => by obtain ⟨k1, k2⟩ := h; go_simp) ?_
  simp only [Act.put, List.setIfInBounds_toArray, List.set_cons_zero, List.set_cons_succ]
  refine takeP hS 4 43 (.int .i64 (c : Int)) _ rfl (by kernel_rfl) (by kernel_rfl) (by kernel_rfl) rfl (fun _ _ _ h => h) rfl rfl (fun w' => by go_simp) ?_
  simp only [Act.put, List.setIfInBounds_toArray, List.set_cons_zero, List.set_cons_succ]
  refine takeP hS 5 44 (.pointer (some ⟨w.heap.size, c, none⟩)) _ rfl (by kernel_rfl) (by kernel_rfl) (by kernel_rfl) rfl (fun _ _ _ h => h) rfl rfl (fun w' => by go_simp) ?_
  simp only [Act.put, List.setIfInBounds_toArray, List.set_cons_zero, List.set_cons_succ]
  refine takeG hS 6 45 (W32 c1) _ rfl (by kernel_rfl) (by kernel_rfl) (by kernel_rfl) (by kernel_rfl) (fun _ _ _ h => h) rfl rfl (fun w' h => by obtain ⟨k1, k2⟩ := h; go_simp) ?_
  simp only [Act.put, List.setIfInBounds_toArray, List.set_cons_zero, List.set_cons_succ]
  refine gateVal 46 (W32 z) w3.drew _ (by kernel_rfl) rfl rfl rfl (by go_simp; exact HS.out) ?_
  simp only [Act.put, List.setIfInBounds_toArray, List.set_cons_zero, List.set_cons_succ]
  refine call0 8 47 54 #[W32 z, .int .i64 12] _ (by kernel_rfl) rfl rfl rfl (by go_simp) HC.out ?_
  rintro e w' ⟨rfl, rfl⟩
  refine ⟨_, rfl, ?_⟩
  simp only [Act.put, List.setIfInBounds_toArray, List.set_cons_zero, List.set_cons_succ]
  clear hS
  refine take0 9 48 (.pointer (some ⟨w.heap.size, b, none⟩)) _ rfl (by kernel_rfl) (by kernel_rfl) (by kernel_rfl) (fun _ _ _ h => h) rfl rfl (fun w' => by go_simp) ?_
  simp only [Act.put, List.setIfInBounds_toArray, List.set_cons_zero, List.set_cons_succ]
  have ct2 : w3.drew.cell? ⟨w.heap.size, b, none⟩ = some (W32 xb) := ct
  have ft2 : w3.drew.frozen? ⟨w.heap.size, b, none⟩ = false := ft
  refine only0 10 (w3.drew.setCell ⟨w.heap.size, b, none⟩ (W32 b1)) _ (by kernel_rfl) rfl rfl rfl (by go_simp) ?_
  simp only [Act.put]
  refine wpAny_end (by kernel_rfl) ?_ _
  refine NoPanic.normal ?_
  clear ct2 ft2 HC
  replace E := E.drew.set b b1
  generalize w3.drew.setCell ⟨w.heap.size, b, none⟩ (W32 b1) = w4 at E ⊢
  clear ct co ft HS w3
  replace F := F.setB b1 hb hab hbc hbd
  obtain ⟨l4, hl4⟩ : ∃ y, l3.set b b1 = y := ⟨_, rfl⟩
  rw [hl4] at E F
  have L4 := Lib.hid hl4
  clear hl4
  go_upto_region 5 with fail
  -- region 5
  have ct := E.hA.word a (by rw [F.len]; omega)
  have co := E.hA.word b (by rw [F.len]; omega)
  have ft := E.hA.frozen a
  rw [F.a] at ct
  rw [F.b] at co
  obtain ⟨a2, ha2⟩ : ∃ y, a1 + b1 = y := ⟨_, rfl⟩
  have hs := add32 a1 b1
  rw [ha2] at hs
  have HS := Lib.hid hs
  have Ha2 := Lib.hid ha2
  clear hs ha2
  go_region
  rw [HS.out]
  replace E := (E.set a a2).drew
  generalize (w4.setCell ⟨w.heap.size, a, none⟩ (W32 a2)).drew = w5 at E ⊢
  clear ct co ft HS w4
  replace F := F.setA a2 ha hab hac had
  obtain ⟨l5, hl5⟩ : ∃ y, l4.set a a2 = y := ⟨_, rfl⟩
  rw [hl5] at E F
  have L5 := Lib.hid hl5
  clear hl5
  go_upto_region 6 with fail
  -- region 6
  have ct := E.hA.word d (by rw [F.len]; omega)
  have co := E.hA.word a (by rw [F.len]; omega)
  have ft := E.hA.frozen d
  rw [F.d] at ct
  rw [F.a] at co
  have hx := xor32 d1 a2
  have hc := left_any (d1 ^^^ a2) 8 (by omega) (by omega) w5.drew
  simp only [Int.reduceToNat] at hc
  obtain ⟨d2, hd2⟩ : ∃ y, rotl (d1 ^^^ a2) 8 = y := ⟨_, rfl⟩
  rw [hd2] at hc
  obtain ⟨z, hz⟩ : ∃ z, d1 ^^^ a2 = z := ⟨_, rfl⟩
  rw [hz] at hc hx
  have HS := Lib.hid hx
  have HC := Lib.hid hc
  have Hd2 := Lib.hid hd2
  clear hx hc hd2 hz
  refine wp_region_noPanic ?_
  refine wp_region_gate (c := 7) (S := fun w' => w'.cell? ⟨w.heap.size, d, none⟩ = some (W32 d1) ∧ w'.cell? ⟨w.heap.size, a, none⟩ = some (W32 a2)) (by kernel_rfl) ⟨ct, co⟩ (fun hS => ?_)
  refine takeP hS 0 58 (.int .i64 (d : Int)) _ rfl (by kernel_rfl) (by kernel_rfl) (by kernel_rfl) rfl (fun _ _ _ h => h) rfl rfl (fun w' => by go_simp) ?_
  simp only [Act.put, List.setIfInBounds_toArray, List.set_cons_zero, List.set_cons_succ]
  refine takeP hS 1 59 (.int .i64 (d : Int)) _ rfl (by kernel_rfl) (by kernel_rfl) (by kernel_rfl) rfl (fun _ _ _ h => h) rfl rfl (fun w' => by go_simp) ?_
  simp only [Act.put, List.setIfInBounds_toArray, List.set_cons_zero, List.set_cons_succ]
  refine takeP hS 2 60 (.pointer (some ⟨w.heap.size, d, none⟩)) _ rfl (by kernel_rfl) (by kernel_rfl) (by kernel_rfl) rfl (fun _ _ _ h => h) rfl rfl (fun w' => by go_simp) ?_
  simp only [Act.put, List.setIfInBounds_toArray, List.set_cons_zero, List.set_cons_succ]
  refine takeG hS 3 61 (W32 d1) _ rfl (by kernel_rfl) (by kernel_rfl) (by kernel_rfl) (by kernel_rfl) (fun _ _ _ h => h) rfl rfl (fun w' h => by obtain ⟨k1, k2⟩ := h; go_simp) ?_
  simp only [Act.put, List.setIfInBounds_toArray, List.set_cons_zero, List.set_cons_succ]
  refine takeP hS 4 62 (.int .i64 (a : Int)) _ rfl (by kernel_rfl) (by kernel_rfl) (by kernel_rfl) rfl (fun _ _ _ h => h) rfl rfl (fun w' => by go_simp) ?_
  simp only [Act.put, List.setIfInBounds_toArray, List.set_cons_zero, List.set_cons_succ]
  refine takeP hS 5 63 (.pointer (some ⟨w.heap.size, a, none⟩)) _ rfl (by kernel_rfl) (by kernel_rfl) (by kernel_rfl) rfl (fun _ _ _ h => h) rfl rfl (fun w' => by go_simp) ?_
  simp only [Act.put, List.setIfInBounds_toArray, List.set_cons_zero, List.set_cons_succ]
  refine takeG hS 6 64 (W32 a2) _ rfl (by kernel_rfl) (by kernel_rfl) (by kernel_rfl) (by kernel_rfl) (fun _ _ _ h => h) rfl rfl (fun w' h => by obtain ⟨k1, k2⟩ := h; go_simp) ?_
  simp only [Act.put, List.setIfInBounds_toArray, List.set_cons_zero, List.set_cons_succ]
  refine gateVal 65 (W32 z) w5.drew _ (by kernel_rfl) rfl rfl rfl (by go_simp; exact HS.out) ?_
  simp only [Act.put, List.setIfInBounds_toArray, List.set_cons_zero, List.set_cons_succ]
  refine call0 8 66 54 #[W32 z, .int .i64 8] _ (by kernel_rfl) rfl rfl rfl (by go_simp) HC.out ?_
  rintro e w' ⟨rfl, rfl⟩
  refine ⟨_, rfl, ?_⟩
  simp only [Act.put, List.setIfInBounds_toArray, List.set_cons_zero, List.set_cons_succ]
  clear hS
  refine take0 9 67 (.pointer (some ⟨w.heap.size, d, none⟩)) _ rfl (by kernel_rfl) (by kernel_rfl) (by kernel_rfl) (fun _ _ _ h => h) rfl rfl (fun w' => by go_simp) ?_
  simp only [Act.put, List.setIfInBounds_toArray, List.set_cons_zero, List.set_cons_succ]
  have ct2 : w5.drew.cell? ⟨w.heap.size, d, none⟩ = some (W32 d1) := ct
  have ft2 : w5.drew.frozen? ⟨w.heap.size, d, none⟩ = false := ft
  refine only0 10 (w5.drew.setCell ⟨w.heap.size, d, none⟩ (W32 d2)) _ (by kernel_rfl) rfl rfl rfl (by go_simp) ?_
  simp only [Act.put]
  refine wpAny_end (by kernel_rfl) ?_ _
  refine NoPanic.normal ?_
  clear ct2 ft2 HC
  replace E := E.drew.set d d2
  generalize w5.drew.setCell ⟨w.heap.size, d, none⟩ (W32 d2) = w6 at E ⊢
  clear ct co ft HS w5
  replace F := F.setD d2 hd had hbd hcd
  obtain ⟨l6, hl6⟩ : ∃ y, l5.set d d2 = y := ⟨_, rfl⟩
  rw [hl6] at E F
  have L6 := Lib.hid hl6
  clear hl6
  go_upto_region 7 with fail
  -- region 7
  have ct := E.hA.word c (by rw [F.len]; omega)
  have co := E.hA.word d (by rw [F.len]; omega)
  have ft := E.hA.frozen c
  rw [F.c] at ct
  rw [F.d] at co
  obtain ⟨c2, hc2⟩ : ∃ y, c1 + d2 = y := ⟨_, rfl⟩
  have hs := add32 c1 d2
  rw [hc2] at hs
  have HS := Lib.hid hs
  have Hc2 := Lib.hid hc2
  clear hs hc2
  go_region
  rw [HS.out]
  replace E := (E.set c c2).drew
  generalize (w6.setCell ⟨w.heap.size, c, none⟩ (W32 c2)).drew = w7 at E ⊢
  clear ct co ft HS w6
  replace F := F.setC c2 hc hac hbc hcd
  obtain ⟨l7, hl7⟩ : ∃ y, l6.set c c2 = y := ⟨_, rfl⟩
  rw [hl7] at E F
  have L7 := Lib.hid hl7
  clear hl7
  go_upto_region 8 with fail
  -- region 8
  have ct := E.hA.word b (by rw [F.len]; omega)
  have co := E.hA.word c (by rw [F.len]; omega)
  have ft := E.hA.frozen b
  rw [F.b] at ct
  rw [F.c] at co
  have hx := xor32 b1 c2
  have hc := left_any (b1 ^^^ c2) 7 (by omega) (by omega) w7.drew
  simp only [Int.reduceToNat] at hc
  obtain ⟨b2, hb2⟩ : ∃ y, rotl (b1 ^^^ c2) 7 = y := ⟨_, rfl⟩
  rw [hb2] at hc
  obtain ⟨z, hz⟩ : ∃ z, b1 ^^^ c2 = z := ⟨_, rfl⟩
  rw [hz] at hc hx
  have HS := Lib.hid hx
  have HC := Lib.hid hc
  have Hb2 := Lib.hid hb2
  clear hx hc hb2 hz
  refine wp_region_noPanic ?_
  refine wp_region_gate (c := 7) (S := fun w' => w'.cell? ⟨w.heap.size, b, none⟩ = some (W32 b1) ∧ w'.cell? ⟨w.heap.size, c, none⟩ = some (W32 c2)) (by kernel_rfl) ⟨ct, co⟩ (fun hS => ?_)
  refine takeP hS 0 77 (.int .i64 (b : Int)) _ rfl (by kernel_rfl) (by kernel_rfl) (by kernel_rfl) rfl (fun _ _ _ h => h) rfl rfl (fun w' => by go_simp) ?_
  simp only [Act.put, List.setIfInBounds_toArray, List.set_cons_zero, List.set_cons_succ]
  refine takeP hS 1 78 (.int .i64 (b : Int)) _ rfl (by kernel_rfl) (by kernel_rfl) (by kernel_rfl) rfl (fun _ _ _ h => h) rfl rfl (fun w' => by go_simp) ?_
  simp only [Act.put, List.setIfInBounds_toArray, List.set_cons_zero, List.set_cons_succ]
  refine takeP hS 2 79 (.pointer (some ⟨w.heap.size, b, none⟩)) _ rfl (by kernel_rfl) (by kernel_rfl) (by kernel_rfl) rfl (fun _ _ _ h => h) rfl rfl (fun w' => by go_simp) ?_
  simp only [Act.put, List.setIfInBounds_toArray, List.set_cons_zero, List.set_cons_succ]
  refine takeG hS 3 80 (W32 b1) _ rfl (by kernel_rfl) (by kernel_rfl) (by kernel_rfl) (by kernel_rfl) (fun _ _ _ h => h) rfl rfl (fun w' h => by obtain ⟨k1, k2⟩ := h; go_simp) ?_
  simp only [Act.put, List.setIfInBounds_toArray, List.set_cons_zero, List.set_cons_succ]
  refine takeP hS 4 81 (.int .i64 (c : Int)) _ rfl (by kernel_rfl) (by kernel_rfl) (by kernel_rfl) rfl (fun _ _ _ h => h) rfl rfl (fun w' => by go_simp) ?_
  simp only [Act.put, List.setIfInBounds_toArray, List.set_cons_zero, List.set_cons_succ]
  refine takeP hS 5 82 (.pointer (some ⟨w.heap.size, c, none⟩)) _ rfl (by kernel_rfl) (by kernel_rfl) (by kernel_rfl) rfl (fun _ _ _ h => h) rfl rfl (fun w' => by go_simp) ?_
  simp only [Act.put, List.setIfInBounds_toArray, List.set_cons_zero, List.set_cons_succ]
  refine takeG hS 6 83 (W32 c2) _ rfl (by kernel_rfl) (by kernel_rfl) (by kernel_rfl) (by kernel_rfl) (fun _ _ _ h => h) rfl rfl (fun w' h => by obtain ⟨k1, k2⟩ := h; go_simp) ?_
  simp only [Act.put, List.setIfInBounds_toArray, List.set_cons_zero, List.set_cons_succ]
  refine gateVal 84 (W32 z) w7.drew _ (by kernel_rfl) rfl rfl rfl (by go_simp; exact HS.out) ?_
  simp only [Act.put, List.setIfInBounds_toArray, List.set_cons_zero, List.set_cons_succ]
  refine call0 8 85 54 #[W32 z, .int .i64 7] _ (by kernel_rfl) rfl rfl rfl (by go_simp) HC.out ?_
  rintro e w' ⟨rfl, rfl⟩
  refine ⟨_, rfl, ?_⟩
  simp only [Act.put, List.setIfInBounds_toArray, List.set_cons_zero, List.set_cons_succ]
  clear hS
  refine take0 9 86 (.pointer (some ⟨w.heap.size, b, none⟩)) _ rfl (by kernel_rfl) (by kernel_rfl) (by kernel_rfl) (fun _ _ _ h => h) rfl rfl (fun w' => by go_simp) ?_
  simp only [Act.put, List.setIfInBounds_toArray, List.set_cons_zero, List.set_cons_succ]
  have ct2 : w7.drew.cell? ⟨w.heap.size, b, none⟩ = some (W32 b1) := ct
  have ft2 : w7.drew.frozen? ⟨w.heap.size, b, none⟩ = false := ft
  refine only0 10 (w7.drew.setCell ⟨w.heap.size, b, none⟩ (W32 b2)) _ (by kernel_rfl) rfl rfl rfl (by go_simp) ?_
  simp only [Act.put]
  refine wpAny_end (by kernel_rfl) ?_ _
  refine NoPanic.normal ?_
  clear ct2 ft2 HC
  replace E := E.drew.set b b2
  generalize w7.drew.setCell ⟨w.heap.size, b, none⟩ (W32 b2) = w8 at E ⊢
  clear ct co ft HS w7
  replace F := F.setB b2 hb hab hbc hbd
  obtain ⟨l8, hl8⟩ : ∃ y, l7.set b b2 = y := ⟨_, rfl⟩
  rw [hl8] at E F
  have L8 := Lib.hid hl8
  clear hl8
  have e : qr xa xb xc xd = ⟨a2, b2, c2, d2⟩ := by
    have e1 : qh1 ⟨xa, xb, xc, xd⟩ = ⟨a1, b1, c1, d1⟩ := by
      unfold qh1; simp only; rw [Ha1.out, Hd1.out, Hc1.out, Hb1.out]
    unfold qr
    rw [e1]
    unfold qh2; simp only; rw [Ha2.out, Hd2.out, Hc2.out, Hb2.out]
  have hr : q4 l a b c d = l8 := by
    rw [HQ.out, e, ← L8.out, ← L7.out, ← L6.out, ← L5.out, ← L4.out, ← L3.out, ← L2.out, ← L1.out, ← L0.out]
    exact (sets_q4 l a b c d hbc hbd hcd a1 b1 c1 d1 a2 b2 c2 d2).symm
  have HR := Lib.hid hr
  clear hr e HQ L0 L1 L2 L3 L4 L5 L6 L7 L8 Ha1 Hb1 Hc1 Hd1 Ha2 Hb2 Hc2 Hd2
  have HL := Lib.hid F.len
  have hA := E.hA
  have hB := E.hB
  have hb' := E.hb
  clear F E ja jb jc jd
  go_upto_region 9 with fail
  go_wp2_with (first
    | (refine wpList_load_row rfl 50 (.tmp 5) rfl w.heap.size rfl 50 (ws l8) (0, 0) _ hA Try.underlying50 rfl (info16 l8 HL.out) ?_)
    | (refine wpList_store_row rfl 50 (.tmp 10) (.tmp 87) rfl (w.heap.size + 1) (ws l8) rfl rfl 50 z16 hB (info16 l8 HL.out) (z16_size l8 HL.out) (ws_one l8) ?_))
  refine bodyPost_ret (v := .agg (ws l8)) (results_cell_row rfl _ _ (w.heap.size + 1) 50 (ws l8) (0, 0) _ rfl (hB.setRow _) Try.underlying50 rfl (info16 l8 HL.out)) rfl ⟨by rw [HR.out], below_setRow hb' (by omega) _⟩
end Go.Proofs.Ytfhjokbbaoldiaa
