/- causeyref06.Times: walked. -/
import Derived.Test.YtdikkdediofieaaGC
namespace Go.Proofs.Ytdikkdediofieaa
open Go.RowKit
theorem e64 : (256 : Nat) ^ 64 = 115792089237316195423570985008687907853269984665640564039457584007913129639936 * 115792089237316195423570985008687907853269984665640564039457584007913129639936 := by decide +kernel
theorem times_step (o : List Nat) (i j P0 x y T NB s : Nat) (hk : i + j < o.length) (h : num 256 o = P0 * NB + x * T * 256 ^ i) (hs : s = o.getD (i + j) 0 + x * y) :
    num 256 (o.set (i + j) s) = P0 * NB + x * (T + y * 256 ^ j) * 256 ^ i := by
  have h1 := num_set 256 o (i + j) s hk
  rw [hs, Nat.add_mul] at h1
  have h2 : x * (T + y * 256 ^ j) * 256 ^ i = x * T * 256 ^ i + x * y * 256 ^ (i + j) := by
    rw [Nat.mul_add, Nat.add_mul, Nat.pow_add, Nat.mul_assoc x (y * 256 ^ j), Nat.mul_assoc y, Nat.mul_assoc x y, Nat.mul_comm (256 ^ i) (256 ^ j)]
  rw [hs, h2]
  omega
theorem times_carry (o : List Nat) (i : Nat) (hk : i + 1 < o.length) : num 256 ((o.set (i + 1) (o.getD (i + 1) 0 + o.getD i 0 / 256)).set i (o.getD i 0 % 256)) = num 256 o := by
  have h1 := num_set 256 o (i + 1) (o.getD (i + 1) 0 + o.getD i 0 / 256) hk
  have h2 := num_set 256 (o.set (i + 1) (o.getD (i + 1) 0 + o.getD i 0 / 256)) i (o.getD i 0 % 256) (by rw [List.length_set]; omega)
  rw [getD_set_other _ _ _ _ (by omega)] at h2
  have h3 : o.getD i 0 * 256 ^ i = o.getD i 0 % 256 * 256 ^ i + o.getD i 0 / 256 * 256 ^ (i + 1) := by
    rw [Nat.pow_succ', ← Nat.mul_assoc, ← Nat.add_mul, Nat.mul_comm (o.getD i 0 / 256) 256, Nat.mod_add_div]
  rw [Nat.add_mul] at h1
  omega
theorem getD_set_any (l : List Nat) (i v k : Nat) (h : i < l.length) : (l.set i v).getD k 0 = if k = i then v else l.getD k 0 := by
  split
  · rename_i e; rw [e]; exact getD_set_self l i v h
  · rename_i e; exact getD_set_other l i v k (fun h => e h.symm)
theorem Dig.of_getD (B : Nat) (l : List Nat) (h : ∀ k, k < l.length → l.getD k 0 < B) : Dig B l := by
  intro a ha
  obtain ⟨k, hk, rfl⟩ := List.getElem_of_mem ha
  have := h k hk
  rw [List.getD_eq_getElem?_getD, List.getElem?_eq_getElem hk] at this
  exact this
set_option maxHeartbeats 2000000 in
theorem ctimes_any (a b : Nat) (ha : a < 57896044618658097711785492504343953926634992332820282019728792003956564819949) (hb : b < 57896044618658097711785492504343953926634992332820282019728792003956564819949) (w : World) :
    Calls Try.prog 18 #[.agg (de a), .agg (de b)] w fun e w' => e = .returned (.agg (de (fmul a b))) ∧ Below w.heap.size w w' := by
  have M0 : Mem w [(w.heap.size, 30, de a), (w.heap.size + 1, 30, de b), (w.heap.size + 1 + 1, 30, z32i)] (((w.alloc (.cells (de a) 30)).alloc (.cells (de b) 30)).alloc (.cells z32i 30)) :=
    (((Mem.init w).alloc _ rfl _ _).alloc _ (by simp) _ _).alloc _ (by simp) _ _
  have hsz : (((w.alloc (.cells (de a) 30)).alloc (.cells (de b) 30)).alloc (.cells z32i 30)).heap.size = w.heap.size + 1 + 1 + 1 := by simp
  have na := num_de a ha
  have nb' := num_de b hb
  have lA := dg_length 256 a 32
  have lB := dg_length 256 b 32
  have dA := dg_dig 256 a 32 (by omega)
  have dB := dg_dig 256 b 32 (by omega)
  have hR : ∀ o : List Nat, num 256 o = a * b → dg 256 (num 256 o % 57896044618658097711785492504343953926634992332820282019728792003956564819949) 32 = dg 256 (fmul a b) 32 := fun o h => by rw [h]; rfl
  have hab : a * b < 256 ^ 64 := by
    rw [e64]
    exact Nat.lt_of_le_of_lt (Nat.mul_le_mul (Nat.le_of_lt ha) (Nat.le_of_lt hb)) (by decide +kernel)
  have lR := dg_length 256 (fmul a b) 32
  unfold de at M0 hsz ⊢
  generalize dg 256 a 32 = A at *
  generalize dg 256 b 32 = B at *
  generalize dg 256 (fmul a b) 32 = R at *
  have HA := Lib.hid (And.intro na (And.intro lA dA))
  have HB := Lib.hid (And.intro nb' (And.intro lB dB))
  have HR := Lib.hid (And.intro hR lR)
  have HSZ := Lib.hid hsz
  have HAB := Lib.hid hab
  clear na nb' lA lB dA dB hR ha hb lR hsz hab
  go_enter Try.func18, Try.ntmps18
  go_upto_region 1 with fail
  change Code.wp _ _ _ _ (((w.alloc (.cells (is A) 30)).alloc (.cells (is B) 30)).alloc (.cells z32i 30))
  generalize ((w.alloc (.cells (is A) 30)).alloc (.cells (is B) 30)).alloc (.cells z32i 30) = w0 at M0 HSZ ⊢
  obtain ⟨Z, hZ⟩ : ∃ Z, Z = List.replicate 65 0 := ⟨_, rfl⟩
  have hmk : (Instr.makeSlice 47 (.int .i64 65) (.int .i64 65)).run Try.prog w0 = .ok (.slice (some ⟨w.heap.size + 1 + 1 + 1, 0, none⟩) 65 65) (w0.alloc (.cells (is Z) 3)) := by
    rw [← HSZ.out, hZ]; exact make_ints 65 (by omega) w0
  replace M0 := M0.alloc _ HSZ.out 3 (is Z)
  have HZ := Lib.hid hZ
  simp only [List.cons_append, List.nil_append] at M0
  clear HSZ hZ
  go_upto_region 2 with fail
  generalize w0.alloc (.cells (is Z) 3) = w1 at M0 ⊢
  clear hmk w0
  go_wp2
  go_loopw [6] (fun iv wr => ∃ (i : Nat) (o : List Nat), i ≤ 32 ∧ iv = .int .i64 (i : Int) ∧ o.length = 65 ∧ (∀ q, o.getD q 0 ≤ 65025 * (32 * i)) ∧ num 256 o = num 256 (A.take i) * num 256 B ∧ Mem w [(w.heap.size, 30, is A), (w.heap.size + 1, 30, is B), (w.heap.size + 1 + 1, 30, z32i), (w.heap.size + 1 + 1 + 1, 3, is o)] wr) (fun iv _ => 32 - (intOf iv).toNat)
  case atStart =>
    have M1 := M0
    rw [HZ.out] at M1
    have hz : ∀ k, (List.replicate 65 0).getD k 0 = 0 := fun k => by
      rw [List.getD_eq_getElem?_getD, List.getElem?_replicate]
      split <;> rfl
    exact ⟨0, _, by omega, rfl, List.length_replicate, fun k => by rw [hz]; omega, by rw [num_zeros]; simp [num], M1⟩
  case round =>
    clear M0 w1 HZ Z
    obtain ⟨i, o, hi, rfl, lo, hbd, hn, M⟩ := hrel
    by_cases hlt : i < 32
    · have t1 : decide ((i : Int) < 32) = true := by simp; omega
      have hnx := num_take_succ 256 A i (by rw [HA.out.2.1]; omega)
      have hxa : A.getD i 0 < 256 := HA.out.2.2.getD (by omega) i
      generalize num 256 (A.take i) = P0 at hn hnx
      have HNX := Lib.hid hnx
      have hst : num 256 o = P0 * num 256 B + A.getD i 0 * num 256 (B.take 0) * 256 ^ i := by rw [hn]; simp [num]
      have HST := Lib.hid (And.intro hbd hst)
      clear hnx hn hbd hst
      go_wp2_with fail
      go_loopw [7] (fun jv wr => ∃ (j : Nat) (o : List Nat), j ≤ 32 ∧ jv = .int .i64 (j : Int) ∧ o.length = 65 ∧ (∀ q, o.getD q 0 ≤ 65025 * (32 * i + j)) ∧ num 256 o = P0 * num 256 B + A.getD i 0 * num 256 (B.take j) * 256 ^ i ∧ Mem w [(w.heap.size, 30, is A), (w.heap.size + 1, 30, is B), (w.heap.size + 1 + 1, 30, z32i), (w.heap.size + 1 + 1 + 1, 3, is o)] wr) (fun jv _ => 32 - (intOf jv).toNat)
      case atStart => exact ⟨0, o, by omega, rfl, lo, HST.out.1, HST.out.2, M⟩
      case round =>
        clear HST lo M o
        obtain ⟨j, o, hj, rfl, lo, hbd, hn, M⟩ := hrel
        by_cases hlt2 : j < 32
        · have t2 : decide ((j : Int) < 32) = true := by simp; omega
          have c1 := (M.drew.row 3 rfl).i64 (i + j) (by omega)
          have c2 := (M.drew.row 0 rfl).i64 i (by rw [HA.out.2.1]; omega)
          have c3 := (M.drew.row 1 rfl).i64 j (by rw [HB.out.2.1]; omega)
          have f1 := (M.drew.row 3 rfl).frozen (i + j)
          have h1 := hbd (i + j)
          have h2 : B.getD j 0 < 256 := HB.out.2.2.getD (by omega) j
          obtain ⟨s, hs⟩ : ∃ s, s = o.getD (i + j) 0 + A.getD i 0 * B.getD j 0 := ⟨_, rfl⟩
          have hst := times_step o i j P0 (A.getD i 0) (B.getD j 0) (num 256 (B.take j)) (num 256 B) s (by omega) hn hs
          rw [← num_take_succ 256 B j (by rw [HB.out.2.1]; omega)] at hst
          have hpp : A.getD i 0 * B.getD j 0 ≤ 255 * 255 := Nat.mul_le_mul (by omega) (by omega)
          have hlo : (o.set (i + j) s).length = 65 := by rw [List.length_set, lo]
          have hbd2 : ∀ q, (o.set (i + j) s).getD q 0 ≤ 65025 * (32 * i + (j + 1)) := fun q => by
            rw [getD_set_any _ _ _ _ (by omega)]
            have h3 := hbd q
            split <;> omega
          have M1 := M.drew.setCell 3 rfl (i + j) (I64 s)
          simp only [List.set_cons_zero, List.set_cons_succ] at M1
          rw [is_set] at M1
          have hmul : (A.getD i 0 : Int) * (B.getD j 0 : Int) = ((A.getD i 0 * B.getD j 0 : Nat) : Int) := mulN _ _
          have hsl : s < 70000000 := by omega
          have hw1 : IntKind.i64.wrap ((i : Int) + (j : Int)) = ((i + j : Nat) : Int) := by rw [IntWalk.i64_in _ (by omega)]; omega
          have hn65 : ¬ ((65 : Int) ≤ ((i + j : Nat) : Int)) := by omega
          have h1b : o.getD (i + j) 0 < 70000000 := by omega
          generalize A.getD i 0 * B.getD j 0 = p at hs hpp hmul
          have hsum : (o.getD (i + j) 0 : Int) + (p : Int) = (s : Int) := by omega
          have HS := Lib.hid (And.intro hlo (And.intro hbd2 (And.intro hst M1)))
          have HSUM := Lib.hid hsum
          clear hst hlo hbd2 M1 hsum hs hbd hn lo M h1
          generalize o.getD (i + j) 0 = z at *
          generalize A.getD i 0 = x at *
          generalize B.getD j 0 = y at *
          generalize hqq : i + j = q at *
          go_wp2_with fail
          go_region
          rw [HSUM.out]
          go_wp2
          go_roundw
          case rel => exact ⟨j + 1, _, by omega, by go_num, HS.out⟩
          case measure => simp [intOf]; omega
        · have hj3 : j = 32 := by omega
          subst hj3
          rw [show (((32 : Nat) : Int)) = 32 from rfl]
          have t2 : decide ((32 : Int) < 32) = false := by decide
          rw [List.take_of_length_le (by rw [HB.out.2.1]; omega)] at hn
          have hrow : num 256 o = num 256 (A.take (i + 1)) * num 256 B := by
            rw [hn, HNX.out, Nat.add_mul]
            congr 1
            rw [Nat.mul_assoc, Nat.mul_comm (num 256 B), Nat.mul_assoc]
          have hbd2 : ∀ q, o.getD q 0 ≤ 65025 * (32 * (i + 1)) := fun q => by have := hbd q; omega
          have HS := Lib.hid (And.intro lo (And.intro hbd2 (And.intro hrow M)))
          clear hbd hbd2 hrow hn lo M
          go_wp2
          go_roundw
          case rel => exact ⟨i + 1, o, by omega, by go_num, HS.out⟩
          case measure => simp [intOf]; omega
    · have hi3 : i = 32 := by omega
      subst hi3
      rw [show (((32 : Nat) : Int)) = 32 from rfl]
      have t1 : decide ((32 : Int) < 32) = false := by decide
      rw [List.take_of_length_le (by rw [HA.out.2.1]; omega), HA.out.1, HB.out.1] at hn
      have hbd2 : ∀ q, o.getD q 0 ≤ 66585600 := fun q => by have := hbd q; omega
      have HST := Lib.hid (And.intro lo (And.intro hbd2 hn))
      clear lo hbd hbd2 hn
      go_wp2_with fail
      go_loopw [8] (fun iv wr => ∃ (i : Nat) (o : List Nat), i ≤ 64 ∧ iv = .int .i64 (i : Int) ∧ o.length = 65 ∧ (∀ q, q < i → o.getD q 0 < 256) ∧ o.getD i 0 ≤ 67000000 ∧ (∀ q, i < q → o.getD q 0 ≤ 66585600) ∧ num 256 o = a * b ∧ Mem w [(w.heap.size, 30, is A), (w.heap.size + 1, 30, is B), (w.heap.size + 1 + 1, 30, z32i), (w.heap.size + 1 + 1 + 1, 3, is o)] wr) (fun iv _ => 64 - (intOf iv).toNat)
      case atStart => exact ⟨0, o, by omega, rfl, HST.out.1, fun q h => by omega, by have := HST.out.2.1 0; omega, fun q _ => HST.out.2.1 q, HST.out.2.2, M⟩
      case round =>
        clear HST M o t1
        obtain ⟨i, o, hi, rfl, lo, hsm, hmid, hbig, hn, M⟩ := hrel
        by_cases hlt2 : i < 64
        · have t2 : decide ((i : Int) < 64) = true := by simp; omega
          have hst := times_carry o i (by omega)
          have hc := hbig (i + 1) (by omega)
          obtain ⟨x, hx⟩ : ∃ x, x = o.getD i 0 := ⟨_, rfl⟩
          obtain ⟨y, hy⟩ : ∃ y, y = o.getD (i + 1) 0 := ⟨_, rfl⟩
          obtain ⟨s, hs⟩ : ∃ s, s = y + x / 256 := ⟨_, rfl⟩
          have c1 := (M.drew.row 3 rfl).i64 i (by omega)
          have c2 := (M.drew.row 3 rfl).i64 (i + 1) (by omega)
          have f1 := (M.drew.row 3 rfl).frozen (i + 1)
          rw [← hx, ← hy, ← hs] at hst
          rw [← hx] at c1 hmid
          rw [← hy] at c2 hc
          have hl1 : (o.set (i + 1) s).length = 65 := by rw [List.length_set, lo]
          have hl2 : ((o.set (i + 1) s).set i (x % 256)).length = 65 := by rw [List.length_set, hl1]
          have hg1 : (o.set (i + 1) s).getD i 0 = x := by rw [getD_set_other _ _ _ _ (by omega), hx]
          have hq1 : ∀ q, q < i + 1 → ((o.set (i + 1) s).set i (x % 256)).getD q 0 < 256 := fun q hq => by
            rw [getD_set_any _ _ _ _ (by omega)]
            split
            · omega
            · rw [getD_set_other _ _ _ _ (by omega)]; exact hsm q (by omega)
          have hq2 : ((o.set (i + 1) s).set i (x % 256)).getD (i + 1) 0 ≤ 67000000 := by
            rw [getD_set_other _ _ _ _ (by omega), getD_set_self _ _ _ (by omega)]
            omega
          have hq3 : ∀ q, i + 1 < q → ((o.set (i + 1) s).set i (x % 256)).getD q 0 ≤ 66585600 := fun q hq => by
            rw [getD_set_other _ _ _ _ (by omega), getD_set_other _ _ _ _ (by omega)]; exact hbig q (by omega)
          rw [hn] at hst
          have M1 := M.drew.setCell 3 rfl (i + 1) (I64 s)
          simp only [List.set_cons_zero, List.set_cons_succ] at M1
          rw [is_set] at M1
          have HS := Lib.hid (And.intro hl2 (And.intro hq1 (And.intro hq2 (And.intro hq3 hst))))
          have HL := Lib.hid (And.intro hl1 hg1)
          have hw1 : IntKind.i64.wrap ((i : Int) + 1) = ((i + 1 : Nat) : Int) := by rw [IntWalk.i64_in _ (by omega)]; omega
          have hn65 : ¬ ((65 : Int) ≤ ((i + 1 : Nat) : Int)) := by omega
          have hn65b : ¬ ((65 : Int) ≤ (i : Int)) := by omega
          have hquo : (x : Int).tdiv 256 = ((x / 256 : Nat) : Int) := tdivI x 256
          have hrem : (x : Int).tmod 256 = ((x % 256 : Nat) : Int) := tmodI x 256
          have hsum : (y : Int) + ((x / 256 : Nat) : Int) = (s : Int) := by omega
          have hsl : s < 70000000 := by omega
          have hd1 : x / 256 < 300000 := by omega
          have hd2 : x % 256 < 256 := Nat.mod_lt _ (by omega)
          have HSUM := Lib.hid hsum
          clear hst hl1 hl2 hg1 hq1 hq2 hq3 hsum hs hx hy hsm hbig hn lo M
          generalize x / 256 = xq at *
          generalize x % 256 = xr at *
          generalize hqq : i + 1 = q at *
          go_upto_region 12 with fail
          go_region
          rw [HSUM.out]
          go_upto_region 13 with fail
          change Code.wp _ _ _ _ (wr.drew.setCell ⟨w.heap.size + 1 + 1 + 1, q, none⟩ (I64 s))
          generalize wr.drew.setCell ⟨w.heap.size + 1 + 1 + 1, q, none⟩ (I64 s) = w3 at M1 ⊢
          clear c1 c2 f1 wr
          have c1 := (M1.row 3 rfl).i64 i (by rw [HL.out.1]; omega)
          rw [HL.out.2] at c1
          have f1 := (M1.row 3 rfl).frozen i
          have M2 := M1.setCell 3 rfl i (I64 xr)
          simp only [List.set_cons_zero, List.set_cons_succ] at M2
          rw [is_set] at M2
          clear M1
          go_wp2
          go_roundw
          case rel => exact ⟨q, _, by omega, by go_num, HS.out.1, HS.out.2.1, HS.out.2.2.1, HS.out.2.2.2.1, HS.out.2.2.2.2, M2⟩
          case measure => simp [intOf]; omega
        · have hi4 : i = 64 := by omega
          subst hi4
          rw [show (((64 : Nat) : Int)) = 64 from rfl]
          have t2 : decide ((64 : Int) < 64) = false := by decide
          have h64 : o.getD 64 0 = 0 := by
            have h0 := num_take_succ 256 o 64 (by omega)
            rw [List.take_of_length_le (by omega), hn] at h0
            have h1 := HAB.out
            rcases Nat.eq_zero_or_pos (o.getD 64 0) with h2 | h2
            · exact h2
            · have : 1 * 256 ^ 64 ≤ o.getD 64 0 * 256 ^ 64 := Nat.mul_le_mul_right _ h2
              rw [Nat.one_mul] at this
              generalize o.getD 64 0 * 256 ^ 64 = z at *
              generalize 256 ^ 64 = z' at *
              omega
          have dO : Dig 256 o := Dig.of_getD 256 o (fun k hk => by
            rcases Nat.lt_or_ge k 64 with h | h
            · exact hsm k h
            · rw [show k = 64 from by omega, h64]; omega)
          have hrd := (M.row 3 rfl).rdI
          rw [lo] at hrd
          have p1 := crest_any o dO (by omega) (by omega) _ wr hrd
          rw [HR.out.1 o hn] at p1
          have P1 := Lib.hid p1
          clear p1 hrd dO h64 hsm hmid hbig hn lo
          go_wp2_with fail
          go_at_call 26
          refine P1.out.mono ?_
          rintro e w9 ⟨rfl, hb1⟩
          replace M := M.step hb1
          clear hb1 P1 wr
          have r2 := M.row 2 rfl
          have lR := HR.out.2
          go_wp2_with (refine wpList_store_row rfl 30 (.tmp 4) (.tmp 65) rfl (w.heap.size + 1 + 1) (is R) rfl rfl 30 z32i r2 (infoD R lR) (z32i_size R lR) (is_one _) ?_)
          replace M := M.store 2 rfl (is R)
          simp only [List.set_cons_zero, List.set_cons_succ] at M
          exact bodyPost_ret (v := .agg (is R)) (results_cell_row rfl _ _ (w.heap.size + 1 + 1) 30 (is R) (0, 0) _ rfl (M.row 2 rfl) Try.underlying30 rfl (infoD R lR)) rfl ⟨rfl, M.below⟩
end Go.Proofs.Ytdikkdediofieaa
