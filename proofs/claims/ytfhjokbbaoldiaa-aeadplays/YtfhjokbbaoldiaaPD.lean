/- poly.product: walked. -/
import Derived.Test.YtfhjokbbaoldiaaPC
namespace Go.Proofs.Ytfhjokbbaoldiaa
open Go.RowKit
def z6 : Array Value := us (List.replicate 6 0)
theorem info6 (l : List Nat) (hl : l.length = 6) : (Try.prog.info? 63).map (·.size) = some (us l).size := by
  rw [us_size, hl]; exact (by kernel_rfl : (Try.prog.info? 63).map (·.size) = some 6)
theorem z6_size (l : List Nat) (hl : l.length = 6) : z6.size = (us l).size := by unfold z6; rw [us_size, us_size, hl]; rfl
/-- what memory holds in the midst of a product -/
def PEnv (w : World) (xs ys o : List Nat) (W : World) : Prop :=
  Has W w.heap.size 58 (us xs) ∧ Has W (w.heap.size + 1) 58 (us ys) ∧ Has W (w.heap.size + 2) 63 z6 ∧ Has W (w.heap.size + 3) 63 (us o) ∧ Below w.heap.size w W
theorem PEnv.drew {w : World} {xs ys o : List Nat} {W : World} (h : PEnv w xs ys o W) : PEnv w xs ys o W.drew := ⟨h.1, h.2.1, h.2.2.1, h.2.2.2.1, h.2.2.2.2.drew⟩
theorem PEnv.put {w : World} {xs ys o : List Nat} {W : World} (h : PEnv w xs ys o W) (j s : Nat) : PEnv w xs ys (o.set j s) (W.setCell ⟨w.heap.size + 3, j, none⟩ (U64 s)) :=
  ⟨h.1.other (by show w.heap.size ≠ w.heap.size + 3; omega) _, h.2.1.other (by show w.heap.size + 1 ≠ w.heap.size + 3; omega) _, h.2.2.1.other (by show w.heap.size + 2 ≠ w.heap.size + 3; omega) _, h.2.2.2.1.setU j s, h.2.2.2.2.setCell (by show w.heap.size ≤ w.heap.size + 3; omega) _⟩
/-- an inner round of a product keeps the sum -/
theorem mul_round (B : Nat) (o : List Nat) (a b c P xa yb T s : Nat) (hk : a + b < o.length) (h : num B o + c * B ^ (a + b) = P + xa * T * B ^ a) (hs : s = xa * yb + o.getD (a + b) 0 + c) :
    num B (o.set (a + b) (s % B)) + s / B * B ^ (a + (b + 1)) = P + xa * (T + yb * B ^ b) * B ^ a := by
  have h1 := step_mul B o (a + b) s (xa * yb) c hk hs
  rw [show a + (b + 1) = a + b + 1 from by omega, h1, h, Nat.mul_add, Nat.add_mul, Nat.pow_add]
  rw [Nat.mul_assoc xa (yb * B ^ b), Nat.mul_assoc yb, Nat.mul_assoc xa yb, Nat.mul_comm (B ^ a) (B ^ b)]
  omega
/-- a row of a product is done -/
theorem mul_row (B : Nat) (o : List Nat) (a n c P xa Y : Nat) (hk : a + n < o.length) (h : num B o + c * B ^ (a + n) = P * Y + xa * Y * B ^ a) (h0 : o.getD (a + n) 0 = 0) :
    num B (o.set (a + n) c) = (P + xa * B ^ a) * Y := by
  have h1 := num_set B o (a + n) c hk
  rw [h0, Nat.zero_mul, Nat.add_zero] at h1
  rw [h1, h, Nat.add_mul, Nat.mul_assoc, Nat.mul_assoc, Nat.mul_comm Y]
/-- no digit lies above a product's row -/
theorem mul_top (B : Nat) (hB : 0 < B) (o : List Nat) (a n P Y : Nat) (hk : a + n < o.length) (do' : Dig B o) (h : num B o = P * Y) (hP : P < B ^ a) (hY : Y < B ^ n) : o.getD (a + n) 0 = 0 := by
  rw [getD_num B o do' _ hk, h, Nat.pow_add]
  have : P * Y < B ^ a * B ^ n := by
    have h1 : P * Y ≤ P * B ^ n := Nat.mul_le_mul_left P (Nat.le_of_lt hY)
    have h2 : P * B ^ n < B ^ a * B ^ n := Nat.mul_lt_mul_of_pos_right hP (Nat.pow_pos hB)
    omega
  rw [Nat.div_eq_of_lt this, Nat.zero_mod]
set_option maxHeartbeats 2000000 in
theorem product_any (X Y : Nat) (hX : X < 18446744073709551616 ^ 3) (hY : Y < 18446744073709551616 ^ 3) (w : World) :
    Calls Try.prog 39 #[.agg (us (dg 18446744073709551616 X 3)), .agg (us (dg 18446744073709551616 Y 3))] w fun e w' => e = .returned (.agg (us (dg 18446744073709551616 (X * Y) 6))) ∧ Below w.heap.size w w' := by
  obtain ⟨xs, hxs⟩ : ∃ xs, xs = dg 18446744073709551616 X 3 := ⟨_, rfl⟩
  obtain ⟨ys, hys⟩ : ∃ ys, ys = dg 18446744073709551616 Y 3 := ⟨_, rfl⟩
  have lx : xs.length = 3 := by rw [hxs, dg_length]
  have ly : ys.length = 3 := by rw [hys, dg_length]
  have dx : Dig 18446744073709551616 xs := by rw [hxs]; exact dg_dig _ _ _ (by omega)
  have dy : Dig 18446744073709551616 ys := by rw [hys]; exact dg_dig _ _ _ (by omega)
  have nx : num 18446744073709551616 xs = X := by rw [hxs, num_dg, Nat.mod_eq_of_lt hX]
  have ny : num 18446744073709551616 ys = Y := by rw [hys, num_dg, Nat.mod_eq_of_lt hY]
  rw [← hxs, ← hys]
  have hE0 := three_new w (us xs) (us ys) z6 58 58 63
  obtain ⟨R, hR⟩ : ∃ R, R = dg 18446744073709551616 (X * Y) 6 := ⟨_, rfl⟩
  rw [← hR]
  have hF : ∀ o, o.length = 6 → Dig 18446744073709551616 o → num 18446744073709551616 o = num 18446744073709551616 (xs.take 3) * Y → o = R := by
    intro o lo do' h
    rw [List.take_of_length_le (by omega), nx] at h
    rw [hR]
    refine dg_of (by omega) do' lo ?_
    have hb := num_lt 18446744073709551616 o do'
    rw [lo] at hb
    rw [← h, Nat.mod_eq_of_lt hb]
  have HF := Lib.hid hF
  have HY := Lib.hid hY
  have HNY := Lib.hid ny
  clear hxs hys nx ny hR hF hX hY
  go_enter Try.func39, Try.ntmps39
  go_upto_region 1 with fail
  change Code.wp _ _ _ _ (((w.alloc (.cells (us xs) 58)).alloc (.cells (us ys) 58)).alloc (.cells z6 63))
  have hsz : (((w.alloc (.cells (us xs) 58)).alloc (.cells (us ys) 58)).alloc (.cells z6 63)).heap.size = w.heap.size + 3 := by rw [alloc_size, alloc_size, alloc_size]
  generalize ((w.alloc (.cells (us xs) 58)).alloc (.cells (us ys) 58)).alloc (.cells z6 63) = w0 at hE0 hsz ⊢
  have hE : PEnv w xs ys (List.replicate 6 0) (w0.alloc (.cells z6 63)) :=
    ⟨hE0.1.alloc _, hE0.2.1.alloc _, hE0.2.2.1.alloc _, by rw [← hsz]; exact Has.fresh w0 63 _, hE0.2.2.2.alloc hE0.2.2.2.size _⟩
  go_upto_region 2 with fail
  change Code.wp _ _ _ _ (w0.alloc (.cells z6 63))
  generalize w0.alloc (.cells z6 63) = w1 at hE ⊢
  clear hE0 hsz w0
  go_wp2
  go_loopw [9] (fun i wr => ∃ (a : Nat) (o : List Nat), a ≤ 3 ∧ i = .int .i64 (a : Int) ∧ o.length = 6 ∧ Dig 18446744073709551616 o ∧ num 18446744073709551616 o = num 18446744073709551616 (xs.take a) * Y ∧ PEnv w xs ys o wr) (fun i _ => 3 - (intOf i).toNat)
  case atStart => exact ⟨0, _, by omega, rfl, List.length_replicate, Dig.zeros _ (by omega) _, by rw [num_zeros]; simp [num], hE⟩
  case round =>
    clear hE w1
    obtain ⟨a, o, ha, rfl, lo, do', hn, E⟩ := hrel
    by_cases hlt : a < 3
    · have hab : decide ((a : Int) < 3) = true := by simp; omega
      have ha3 : ¬ ((3 : Int) ≤ (a : Int)) := by omega
      have hP : num 18446744073709551616 (xs.take a) < 18446744073709551616 ^ a := by
        have := num_lt 18446744073709551616 _ (dx.take a)
        rw [List.length_take, lx, Nat.min_eq_left (by omega)] at this
        exact this
      have h0 := mul_top 18446744073709551616 (by omega) o a 3 _ Y (by omega) do' hn hP HY.out
      have hnx := num_take_succ 18446744073709551616 xs a (by omega)
      have hxa : xs.getD a 0 < 18446744073709551616 := dx.getD (by omega) a
      generalize hP0 : num 18446744073709551616 (xs.take a) = P0 at hn hnx hP
      have HNX := Lib.hid hnx
      clear hnx hP hP0
      have hstart : num 18446744073709551616 o + 0 * 18446744073709551616 ^ (a + 0) = P0 * Y + xs.getD a 0 * num 18446744073709551616 (ys.take 0) * 18446744073709551616 ^ a := by simp [num, hn]
      go_wp2_with fail
      go_loopw [7, 12] (fun cv jv wi => ∃ (b c : Nat) (o : List Nat), b ≤ 3 ∧ jv = .int .i64 (b : Int) ∧ cv = U64 c ∧ c < 18446744073709551616 ∧ o.length = 6 ∧ Dig 18446744073709551616 o ∧ num 18446744073709551616 o + c * 18446744073709551616 ^ (a + b) = P0 * Y + xs.getD a 0 * num 18446744073709551616 (ys.take b) * 18446744073709551616 ^ a ∧ o.getD (a + 3) 0 = 0 ∧ PEnv w xs ys o wi) (fun _ j _ => 3 - (intOf j).toNat)
      case atStart => exact ⟨0, 0, o, by omega, rfl, rfl, by omega, lo, do', hstart, h0, E⟩
      case round =>
        clear hstart E h0 hn do' lo o
        obtain ⟨b, c, o, hb, rfl, rfl, hc, lo, do', hn, h0, E⟩ := hrel
        by_cases hlt2 : b < 3
        · have hbb : decide ((b : Int) < 3) = true := by simp; omega
          have hb3 : ¬ ((3 : Int) ≤ (b : Int)) := by omega
          have c1 := E.1.drew.u64 a (by omega)
          have c2 := E.2.1.drew.u64 b (by omega)
          have c3 := E.2.2.2.1.drew.u64 (a + b) (by omega)
          have h1 : o.getD (a + b) 0 < 18446744073709551616 := do'.getD (by omega) _
          have h2 : ys.getD b 0 < 18446744073709551616 := dy.getD (by omega) b
          obtain ⟨s, hs⟩ : ∃ s, s = xs.getD a 0 * ys.getD b 0 + o.getD (a + b) 0 + c := ⟨_, rfl⟩
          have hst := mul_round 18446744073709551616 o a b c (P0 * Y) (xs.getD a 0) (ys.getD b 0) (num 18446744073709551616 (ys.take b)) s (by omega) hn hs
          rw [← num_take_succ 18446744073709551616 ys b (by omega)] at hst
          have hs1 : s / 18446744073709551616 < 18446744073709551616 := by have := mul_le64 hxa h2; omega
          have hs2 : s % 18446744073709551616 < 18446744073709551616 := Nat.mod_lt _ (by omega)
          have hlo : (o.set (a + b) (s % 18446744073709551616)).length = 6 := by rw [List.length_set, lo]
          have hdo := do'.set (a + b) hs2
          have h00 : (o.set (a + b) (s % 18446744073709551616)).getD (a + 3) 0 = 0 := by rw [getD_set_other _ _ _ _ (by omega)]; exact h0
          have hcall := taken_any (xs.getD a 0) (ys.getD b 0) (o.getD (a + b) 0) c hxa h2 h1 hc
          rw [← hs] at hcall
          have hq : IntKind.i64.wrap ((a : Int) + (b : Int)) = ((a + b : Nat) : Int) := by rw [IntWalk.i64_in _ (by omega)]; omega
          have hq6 : ¬ ((6 : Int) ≤ ((a + b : Nat) : Int)) := by omega
          generalize s % 18446744073709551616 = s0 at hst hlo hdo h00 hcall hs2
          generalize s / 18446744073709551616 = s1 at hst hcall hs1
          generalize ys.getD b 0 = y at c2 hcall
          generalize o.getD (a + b) 0 = m at c3 hcall
          have HE := Lib.hid E.drew
          have HL := Lib.hid lo
          have HS := Lib.hid hst
          have HLO := Lib.hid hlo
          have HDO := Lib.hid hdo
          have H00 := Lib.hid h00
          have HC := Lib.hid hcall
          have hqb : a + b < 6 := by omega
          generalize hqq : a + b = q at *
          clear hst hlo hdo h00 hcall E lo do' hn h0 hs h1 h2 hs2 hqq
          go_wp2_with fail
          refine wp_region_noPanic ?_
          refine wp_region_gate (c := 15) (S := fun w' => w'.cell? ⟨w.heap.size, a, none⟩ = some (U64 (xs.getD a 0)) ∧ w'.cell? ⟨w.heap.size + 1, b, none⟩ = some (U64 y) ∧ w'.cell? ⟨w.heap.size + 3, q, none⟩ = some (U64 m)) (by kernel_rfl) ⟨c1, c2, c3⟩ (fun hS => ?_)
          clear c1 c2 c3
          refine takeP hS 0 16 (.int .i64 (a : Int)) _ rfl (by kernel_rfl) (by kernel_rfl) (by kernel_rfl) rfl (fun _ _ _ h => h) rfl rfl (fun w' => by go_simp) ?_
          simp only [Act.put, List.setIfInBounds_toArray, List.set_cons_zero, List.set_cons_succ]
          refine takeP hS 1 17 (.int .i64 (b : Int)) _ rfl (by kernel_rfl) (by kernel_rfl) (by kernel_rfl) rfl (fun _ _ _ h => h) rfl rfl (fun w' => by go_simp) ?_
          simp only [Act.put, List.setIfInBounds_toArray, List.set_cons_zero, List.set_cons_succ]
          refine takeP hS 2 18 (.int .i64 (q : Int)) _ rfl (by kernel_rfl) (by kernel_rfl) (by kernel_rfl) rfl (fun _ _ _ h => h) rfl rfl (fun w' => by go_simp) ?_
          simp only [Act.put, List.setIfInBounds_toArray, List.set_cons_zero, List.set_cons_succ]
          refine takeP hS 3 19 (.int .i64 (a : Int)) _ rfl (by kernel_rfl) (by kernel_rfl) (by kernel_rfl) rfl (fun _ _ _ h => h) rfl rfl (fun w' => by go_simp) ?_
          simp only [Act.put, List.setIfInBounds_toArray, List.set_cons_zero, List.set_cons_succ]
          refine takeP hS 4 20 (.pointer (some ⟨w.heap.size, a, none⟩)) _ rfl (by kernel_rfl) (by kernel_rfl) (by kernel_rfl) rfl (fun _ _ _ h => h) rfl rfl (fun w' => by go_simp) ?_
          simp only [Act.put, List.setIfInBounds_toArray, List.set_cons_zero, List.set_cons_succ]
          refine takeG hS 5 21 (U64 (xs.getD a 0)) _ rfl (by kernel_rfl) (by kernel_rfl) (by kernel_rfl) (by kernel_rfl) (fun _ _ _ h => h) rfl rfl (fun w' h => by obtain ⟨k1, k2, k3⟩ := h; go_simp) ?_
          simp only [Act.put, List.setIfInBounds_toArray, List.set_cons_zero, List.set_cons_succ]
          refine takeP hS 6 22 (.int .i64 (b : Int)) _ rfl (by kernel_rfl) (by kernel_rfl) (by kernel_rfl) rfl (fun _ _ _ h => h) rfl rfl (fun w' => by go_simp) ?_
          simp only [Act.put, List.setIfInBounds_toArray, List.set_cons_zero, List.set_cons_succ]
          refine takeP hS 7 23 (.pointer (some ⟨w.heap.size + 1, b, none⟩)) _ rfl (by kernel_rfl) (by kernel_rfl) (by kernel_rfl) rfl (fun _ _ _ h => h) rfl rfl (fun w' => by go_simp) ?_
          simp only [Act.put, List.setIfInBounds_toArray, List.set_cons_zero, List.set_cons_succ]
          refine takeG hS 8 24 (U64 y) _ rfl (by kernel_rfl) (by kernel_rfl) (by kernel_rfl) (by kernel_rfl) (fun _ _ _ h => h) rfl rfl (fun w' h => by obtain ⟨k1, k2, k3⟩ := h; go_simp) ?_
          simp only [Act.put, List.setIfInBounds_toArray, List.set_cons_zero, List.set_cons_succ]
          refine takeP hS 9 25 (.int .i64 (a : Int)) _ rfl (by kernel_rfl) (by kernel_rfl) (by kernel_rfl) rfl (fun _ _ _ h => h) rfl rfl (fun w' => by go_simp) ?_
          simp only [Act.put, List.setIfInBounds_toArray, List.set_cons_zero, List.set_cons_succ]
          refine takeP hS 10 26 (.int .i64 (b : Int)) _ rfl (by kernel_rfl) (by kernel_rfl) (by kernel_rfl) rfl (fun _ _ _ h => h) rfl rfl (fun w' => by go_simp) ?_
          simp only [Act.put, List.setIfInBounds_toArray, List.set_cons_zero, List.set_cons_succ]
          refine takeP hS 11 27 (.int .i64 (q : Int)) _ rfl (by kernel_rfl) (by kernel_rfl) (by kernel_rfl) rfl (fun _ _ _ h => h) rfl rfl (fun w' => by go_simp) ?_
          simp only [Act.put, List.setIfInBounds_toArray, List.set_cons_zero, List.set_cons_succ]
          refine takeP hS 12 28 (.pointer (some ⟨w.heap.size + 3, q, none⟩)) _ rfl (by kernel_rfl) (by kernel_rfl) (by kernel_rfl) rfl (fun _ _ _ h => h) rfl rfl (fun w' => by go_simp) ?_
          simp only [Act.put, List.setIfInBounds_toArray, List.set_cons_zero, List.set_cons_succ]
          refine takeG hS 13 29 (U64 m) _ rfl (by kernel_rfl) (by kernel_rfl) (by kernel_rfl) (by kernel_rfl) (fun _ _ _ h => h) rfl rfl (fun w' h => by obtain ⟨k1, k2, k3⟩ := h; go_simp) ?_
          simp only [Act.put, List.setIfInBounds_toArray, List.set_cons_zero, List.set_cons_succ]
          refine takeP hS 14 30 (U64 c) _ rfl (by kernel_rfl) (by kernel_rfl) (by kernel_rfl) rfl (fun _ _ _ h => h) rfl rfl (fun w' => by go_simp) ?_
          simp only [Act.put, List.setIfInBounds_toArray, List.set_cons_zero, List.set_cons_succ]
          refine gateCall 31 52 #[U64 (xs.getD a 0), U64 y, U64 m, U64 c] _ (by kernel_rfl) rfl rfl rfl (by go_simp) (HC.out _) ?_
          rintro e w1 ⟨rfl, rfl⟩
          refine ⟨_, rfl, ?_⟩
          simp only [Act.put, List.setIfInBounds_toArray, List.set_cons_zero, List.set_cons_succ]
          clear hS
          have E := HE.out
          generalize wr.drew = w1 at E ⊢
          refine take0 16 15 (.tuple #[U64 s1, U64 s0]) _ rfl (by kernel_rfl) (by kernel_rfl) (by kernel_rfl) (fun _ _ _ h => h) rfl rfl (fun w' => by go_simp) ?_
          simp only [Act.put, List.setIfInBounds_toArray, List.set_cons_zero, List.set_cons_succ]
          refine take0 17 32 (U64 s1) _ rfl (by kernel_rfl) (by kernel_rfl) (by kernel_rfl) (fun _ _ _ h => h) rfl rfl (fun w' => by go_simp) ?_
          simp only [Act.put, List.setIfInBounds_toArray, List.set_cons_zero, List.set_cons_succ]
          refine take0 18 33 (U64 s0) _ rfl (by kernel_rfl) (by kernel_rfl) (by kernel_rfl) (fun _ _ _ h => h) rfl rfl (fun w' => by go_simp) ?_
          simp only [Act.put, List.setIfInBounds_toArray, List.set_cons_zero, List.set_cons_succ]
          refine take0 19 7 (U64 s1) _ rfl (by kernel_rfl) (by kernel_rfl) (by kernel_rfl) (fun _ _ _ h => h) rfl rfl (fun w' => by go_simp) ?_
          simp only [Act.put, List.setIfInBounds_toArray, List.set_cons_zero, List.set_cons_succ]
          refine take0 20 34 (.pointer (some ⟨w.heap.size + 3, q, none⟩)) _ rfl (by kernel_rfl) (by kernel_rfl) (by kernel_rfl) (fun _ _ _ h => h) rfl rfl (fun w' => by go_simp) ?_
          simp only [Act.put, List.setIfInBounds_toArray, List.set_cons_zero, List.set_cons_succ]
          have cc := E.2.2.2.1.u64 q (by rw [HL.out]; omega)
          have ff := E.2.2.2.1.frozen q
          refine only0 21 (w1.setCell ⟨w.heap.size + 3, q, none⟩ (U64 s0)) _ (by kernel_rfl) rfl rfl rfl (by go_simp) ?_
          clear cc ff
          replace E := E.put q s0
          generalize w1.setCell ⟨w.heap.size + 3, q, none⟩ (U64 s0) = w2 at E ⊢
          simp only [Act.put]
          refine wpAny_end (by kernel_rfl) ?_ _
          refine NoPanic.normal ?_
          go_wp2
          go_roundw
          case rel => exact ⟨b + 1, s1, _, by omega, by go_num, rfl, hs1, HLO.out, HDO.out, HS.out, H00.out, E⟩
          case measure => simp [intOf]; omega
        · have hb3 : b = 3 := by omega
          subst hb3
          rw [List.take_of_length_le (by omega), HNY.out] at hn
          have hrow := mul_row 18446744073709551616 o a 3 c P0 (xs.getD a 0) Y (by omega) hn h0
          rw [← HNX.out] at hrow
          have hlo : (o.set (a + 3) c).length = 6 := by rw [List.length_set, lo]
          have hdo := do'.set (a + 3) hc
          have cc := E.2.2.2.1.u64 (a + 3) (by omega)
          have ff := E.2.2.2.1.frozen (a + 3)
          have hq : IntKind.i64.wrap ((a : Int) + 3) = ((a + 3 : Nat) : Int) := by rw [IntWalk.i64_in _ (by omega)]; omega
          have hq6 : ¬ ((6 : Int) ≤ ((a + 3 : Nat) : Int)) := by omega
          have E2 := E.put (a + 3) c
          generalize o.getD (a + 3) 0 = m at cc
          have HE := Lib.hid E2
          have HROW := Lib.hid hrow
          have HLO := Lib.hid hlo
          have HDO := Lib.hid hdo
          clear E E2 hrow hlo hdo hn h0 lo do'
          generalize hqq : a + 3 = q at *
          go_wp2
          go_roundw
          case rel => exact ⟨a + 1, _, by omega, by go_num, HLO.out, HDO.out, HROW.out, HE.out⟩
          case measure => simp [intOf]; omega
    · have ha3 : a = 3 := by omega
      subst ha3
      have hoR := HF.out o lo do' hn
      subst hoR
      have HL := Lib.hid lo
      clear lo lx ly dx dy hn HF do'
      obtain ⟨i1, i2, i3, i4, hb⟩ := E
      go_wp2_with (first
        | (refine wpList_load_row rfl 63 (.tmp 5) rfl (w.heap.size + 3) rfl 63 (us o) (0, 0) _ i4 Try.underlying63 rfl (info6 o HL.out) ?_)
        | (refine wpList_store_row rfl 63 (.tmp 4) (.tmp 41) rfl (w.heap.size + 2) (us o) rfl rfl 63 z6 i3 (info6 o HL.out) (z6_size o HL.out) (us_one o) ?_))
      refine bodyPost_ret (v := .agg (us o)) (results_cell_row rfl _ _ (w.heap.size + 2) 63 (us o) (0, 0) _ rfl (i3.setRow _) Try.underlying63 rfl (info6 o HL.out)) rfl ⟨rfl, below_setRow hb (by omega) _⟩
end Go.Proofs.Ytfhjokbbaoldiaa
