/- curve.place, curve.key, curve.Clamp: walked. -/
import Derived.Test.YtdikkdediofieaaEL
namespace Go.Proofs.Ytdikkdediofieaa
open Go.RowKit
theorem pow_split (j : Nat) : 256 ^ j = 18446744073709551616 ^ (j / 8) * 2 ^ (8 * (j % 8)) := by
  have h1 : (256 : Nat) = 2 ^ 8 := by decide
  have h2 : (18446744073709551616 : Nat) = 2 ^ 64 := by decide
  rw [h1, h2, ← Nat.pow_mul, ← Nat.pow_mul, ← Nat.pow_add]
  congr 1
  omega
/-- a byte joined to a word -/
theorem place_join (N j b : Nat) (hN : N < 256 ^ j) (hb : b < 256) : (N / 18446744073709551616 ^ (j / 8) % 18446744073709551616) ||| (b * 2 ^ (8 * (j % 8)) % 18446744073709551616) = N / 18446744073709551616 ^ (j / 8) + b * 2 ^ (8 * (j % 8)) ∧ N / 18446744073709551616 ^ (j / 8) + b * 2 ^ (8 * (j % 8)) < 18446744073709551616 ∧
    N / 18446744073709551616 ^ (j / 8) < 18446744073709551616 ∧ b * 2 ^ (8 * (j % 8)) < 18446744073709551616 := by
  rw [pow_split] at hN
  have h1 : N / 18446744073709551616 ^ (j / 8) < 2 ^ (8 * (j % 8)) := Nat.div_lt_of_lt_mul hN
  have hr : 2 ^ (8 * (j % 8)) ≤ 2 ^ 56 := Nat.pow_le_pow_right (by omega) (by omega)
  have e56 : (2 : Nat) ^ 56 = 72057594037927936 := by decide
  have h2 : b * 2 ^ (8 * (j % 8)) ≤ 255 * 2 ^ 56 := Nat.mul_le_mul (by omega) hr
  rw [e56] at hr h2
  have h3 : b * 2 ^ (8 * (j % 8)) % 2 ^ (8 * (j % 8)) = 0 := Nat.mul_mod_left _ _
  rw [Nat.mod_eq_of_lt (by omega), Nat.mod_eq_of_lt (by omega), Nat.or_comm, nat_join _ _ _ h3 h1]
  omega
theorem place_set (N j b : Nat) (hN : N < 256 ^ j) (hj : j < 32) (hb : b < 256) : (dg 18446744073709551616 N 4).set (j / 8) (N / 18446744073709551616 ^ (j / 8) + b * 2 ^ (8 * (j % 8))) = dg 18446744073709551616 (N + b * 256 ^ j) 4 := by
  obtain ⟨_, h2, h3, _⟩ := place_join N j b hN hb
  refine dg_of (by omega) ((dg_dig _ _ _ (by omega)).set _ h2) (by rw [List.length_set, dg_length]) ?_
  have h := num_set 18446744073709551616 (dg 18446744073709551616 N 4) (j / 8) (N / 18446744073709551616 ^ (j / 8) + b * 2 ^ (8 * (j % 8))) (by rw [dg_length]; omega)
  rw [dg_getD _ _ _ _ (by omega), Nat.mod_eq_of_lt h3, num_dg, Nat.add_mul] at h
  have e4 : (18446744073709551616 : Nat) ^ 4 = 256 ^ 32 := by decide
  have hN2 : N < 256 ^ 32 := Nat.lt_of_lt_of_le hN (Nat.pow_le_pow_right (by omega) (by omega))
  have hS : N + b * 256 ^ j < 256 ^ 32 := by
    have h5 : 256 ^ (j + 1) ≤ 256 ^ 32 := Nat.pow_le_pow_right (by omega) (by omega)
    rw [Nat.pow_succ] at h5
    have h6 : b * 256 ^ j ≤ 255 * 256 ^ j := Nat.mul_le_mul_right _ (by omega)
    omega
  rw [e4] at h ⊢
  rw [Nat.mod_eq_of_lt hN2] at h
  have e : b * 256 ^ j = b * 2 ^ (8 * (j % 8)) * 18446744073709551616 ^ (j / 8) := by rw [pow_split]; ac_rfl
  rw [Nat.mod_eq_of_lt hS, e]
  omega
/-- a key's number, without its highest bit, its rest -/
def placeN (k : List UInt8) : Nat := nb k % 57896044618658097711785492504343953926634992332820282019728792003956564819968 % 57896044618658097711785492504343953926634992332820282019728792003956564819949
theorem placeN_lt (k : List UInt8) : placeN k < 57896044618658097711785492504343953926634992332820282019728792003956564819949 := Nat.mod_lt _ (by omega)
set_option maxHeartbeats 2000000 in
theorem place_any (K : List UInt8) (hK : K.length = 32) (w : World) :
    Calls Try.prog 22 #[.agg (bs K)] w fun e w' => e = .returned (.agg (el (placeN K))) ∧ Below w.heap.size w w' := by
  have M0 : Mem w [(w.heap.size, 23, bs K), (w.heap.size + 1, 39, z4), (w.heap.size + 1 + 1, 38, us (dg 18446744073709551616 (nb (K.take 0)) 4))] (((w.alloc (.cells (bs K) 23)).alloc (.cells z4 39)).alloc (.cells z4 38)) :=
    (by
      have e1 : dg 18446744073709551616 (nb (K.take 0)) 4 = List.replicate 4 0 := by rw [List.take_zero]; decide
      have e0 : us (dg 18446744073709551616 (nb (K.take 0)) 4) = z4 := by rw [e1]; rfl
      rw [e0]
      exact (((Mem.init w).alloc _ rfl _ _).alloc _ (by simp) _ _).alloc _ (by simp) _ _)
  have hr := rest_any (nb K % 57896044618658097711785492504343953926634992332820282019728792003956564819968) (by have := Nat.mod_lt (nb K) (show 0 < 57896044618658097711785492504343953926634992332820282019728792003956564819968 by omega); omega)
  have hr2 : dg 18446744073709551616 (nb K % 57896044618658097711785492504343953926634992332820282019728792003956564819968 % 57896044618658097711785492504343953926634992332820282019728792003956564819949) 4 = elL (placeN K) := rfl
  rw [hr2] at hr
  have H1 := Lib.hid hr
  have HK := Lib.hid hK
  clear hr hr2 hK
  go_enter Try.func22, Try.ntmps22
  go_upto_region 2 with fail
  change Code.wp _ _ _ _ (((w.alloc (.cells (bs K) 23)).alloc (.cells z4 39)).alloc (.cells z4 38))
  generalize ((w.alloc (.cells (bs K) 23)).alloc (.cells z4 39)).alloc (.cells z4 38) = w0 at M0 ⊢
  go_wp2
  go_loopw [5] (fun i wr => ∃ j : Nat, j ≤ 32 ∧ i = .int .i64 (j : Int) ∧ Mem w [(w.heap.size, 23, bs K), (w.heap.size + 1, 39, z4), (w.heap.size + 1 + 1, 38, us (dg 18446744073709551616 (nb (K.take j)) 4))] wr) (fun i _ => 32 - (intOf i).toNat)
  case atStart => exact ⟨0, by omega, rfl, M0⟩
  case round =>
    clear M0 w0
    obtain ⟨j, hj, rfl, M⟩ := hrel
    by_cases hlt : j < 32
    · have hb : decide ((j : Int) < 32) = true := by simp; omega
      obtain ⟨N, hN⟩ : ∃ N, N = nb (K.take j) := ⟨_, rfl⟩
      have hNl : N < 256 ^ j := by rw [hN]; have := nb_lt (K.take j); rw [List.length_take, HK.out, Nat.min_eq_left (by omega)] at this; exact this
      have hsucc := nb_take_succ K j (by rw [HK.out]; omega)
      rw [← hN] at hsucc M
      obtain ⟨b, hb8⟩ : ∃ b, b = K.getD j 0 := ⟨_, rfl⟩
      rw [← hb8] at hsucc
      obtain ⟨v1, v2, v3, v4⟩ := place_join N j b.toNat hNl b.toNat_lt
      have hset := place_set N j b.toNat hNl hlt b.toNat_lt
      rw [← hsucc] at hset
      have c1 : ∀ W, Below wr.drew.heap.size wr.drew W → W.cell? ⟨w.heap.size + 1 + 1, j / 8, none⟩ = some (U64 (N / 18446744073709551616 ^ (j / 8) % 18446744073709551616)) := fun W h => by
        have h := ((M.drew.step h).row 2 rfl).u64 (j / 8) (by rw [dg_length]; omega)
        rw [dg_getD _ _ _ _ (by omega)] at h; exact h
      have c2 : ∀ W, Below wr.drew.heap.size wr.drew W → W.cell? ⟨w.heap.size, j, none⟩ = some (B8 b) := fun W h => by
        have h := ((M.drew.step h).row 0 rfl).byte j (by rw [HK.out]; omega)
        rw [← hb8] at h; exact h
      have x1 : bits .or .u64 ((N / 18446744073709551616 ^ (j / 8) % 18446744073709551616 : Nat) : Int) ((b.toNat * 2 ^ (8 * (j % 8)) % 18446744073709551616 : Nat) : Int) = ((N / 18446744073709551616 ^ (j / 8) + b.toNat * 2 ^ (8 * (j % 8)) : Nat) : Int) := by
        rw [u64_or_nat _ _ (Nat.mod_lt _ (by omega)) (Nat.mod_lt _ (by omega)), v1]
      generalize N / 18446744073709551616 ^ (j / 8) + b.toNat * 2 ^ (8 * (j % 8)) = v at x1 hset v2
      generalize N / 18446744073709551616 ^ (j / 8) % 18446744073709551616 = a at x1 c1
      have HSET := Lib.hid hset
      clear hset hsucc v1 v2 v3 v4 hN hNl hb8
      go_wp2_with fail
      refine wp_region_noPanic ?_
      have q0 : (0 : Int) ≤ (j : Int) / 8 := by omega
      have q1 : (j : Int) / 8 < 4 := by omega
      have q2 : IntKind.i64.wrap ((j : Int) / 8) = (j : Int) / 8 := IntWalk.i64_in _ ⟨by omega, by omega⟩
      have q3 : ¬ ((32 : Int) ≤ (j : Int)) := by omega
      have q5 : (j : Int).tmod 8 = (j : Int) % 8 := Int.tmod_eq_emod_of_nonneg (by omega)
      have q6 : IntKind.i64.wrap (8 * ((j : Int) % 8)) = 8 * ((j : Int) % 8) := IntWalk.i64_in _ ⟨by omega, by omega⟩
      have q7 : IntKind.u64.wrap ((b.toNat : Int) * 2 ^ (8 * ((j : Int) % 8)).toNat) = ((b.toNat * 2 ^ (8 * (j % 8)) % 18446744073709551616 : Nat) : Int) := by
        rw [show (8 * ((j : Int) % 8)).toNat = 8 * (j % 8) from by omega, ← wrapM]
        congr 1
      generalize b.toNat * 2 ^ (8 * (j % 8)) % 18446744073709551616 = sh at x1 q7
      have q4 : IntKind.u64.wrap (b.toNat : Int) = (b.toNat : Int) := wrapN _ (by have := b.toNat_lt; omega)
      refine wp_region_flow (fin := ?fin1) 14 1 (by kernel_rfl) [.inl (.int .i64 (j : Int)),
        .inl (.int .i64 ((j : Int) / 8)),
        .inl (.pointer (some ⟨w.heap.size + 1 + 1, j / 8, none⟩)),
        .inl (U64 a),
        .inl (.int .i64 (j : Int)),
        .inl (.pointer (some ⟨w.heap.size, j, none⟩)),
        .inl (B8 b),
        .inl (U64 b.toNat),
        .inl (.int .i64 (j : Int)),
        .inl (.int .i64 ((j : Int) % 8)),
        .inl (.int .i64 (8 * ((j : Int) % 8))),
        .inl (U64 sh),
        .inl (U64 v),
        .inl (.pointer (some ⟨w.heap.size + 1 + 1, j / 8, none⟩))] rfl rfl (by kernel_rfl) ?hfin1 ?hE1 ?hend1
      case hfin1 =>
        intro G
        simp only [flowAll, flowVal, Act.put, List.setIfInBounds_toArray, List.set_cons_zero, List.set_cons_succ]
        exact rfl
      case hE1 =>
        intro G
        refine ⟨Or.inr (fun W hB => known_val rfl (by go_simp)),
          Or.inr (fun W hB => known_val rfl (by go_simp)),
          Or.inr (fun W hB => known_val rfl (by go_simp)),
          Or.inr (fun W hB => known_val rfl (by have := c1 W hB; go_simp)),
          Or.inr (fun W hB => known_val rfl (by go_simp)),
          Or.inr (fun W hB => known_val rfl (by go_simp)),
          Or.inr (fun W hB => known_val rfl (by have := c2 W hB; go_simp)),
          Or.inr (fun W hB => known_val rfl (by go_simp)),
          Or.inr (fun W hB => known_val rfl (by go_simp)),
          Or.inr (fun W hB => known_val rfl (by go_simp)),
          Or.inr (fun W hB => known_val rfl (by go_simp)),
          Or.inr (fun W hB => known_val rfl (by go_simp)),
          Or.inr (fun W hB => known_val rfl (by go_simp)),
          Or.inr (fun W hB => known_val rfl (by go_simp)), trivial⟩
      clear c1 c2 x1 q0 q1 q2 q3 q4 q5 q6 q7
      intro G W hB hM
      replace M := M.drew.step hB
      clear hM hB G
      have cc := (M.row 2 rfl).u64 (j / 8) (by rw [dg_length]; omega)
      have ff := (M.row 2 rfl).frozen (j / 8)
      refine only0 14 (W.setCell ⟨w.heap.size + 1 + 1, j / 8, none⟩ (U64 v)) _ (by kernel_rfl) rfl rfl rfl (by go_simp) ?_
      clear cc ff
      replace M := M.setCell 2 rfl (j / 8) (U64 v)
      simp only [List.set_cons_zero, List.set_cons_succ] at M
      rw [us_set, HSET.out] at M
      refine wpAny_end (by kernel_rfl) ?_ _
      refine NoPanic.normal ?_
      simp only [Act.put]
      generalize W.setCell ⟨w.heap.size + 1 + 1, j / 8, none⟩ (U64 v) = W2 at M ⊢
      go_wp2
      go_roundw
      case rel => exact ⟨j + 1, by omega, by go_num, M⟩
      case measure => simp [intOf]; omega
    · have hj32 : j = 32 := by omega
      subst hj32
      rw [show (((32 : Nat) : Int)) = 32 from rfl]
      have hb : decide ((32 : Int) < 32) = false := by decide
      rw [List.take_of_length_le (by rw [HK.out]; omega)] at M
      have l3 := low255 (nb K)
      have d4 := dg4 (nb K)
      have v3 : nb K / 18446744073709551616 / 18446744073709551616 / 18446744073709551616 % 18446744073709551616 < 18446744073709551616 := Nat.mod_lt _ (by omega)
      have hm := and63 _ v3
      have c3 := (M.row 2 rfl).u64 3 (by rw [dg_length]; omega)
      have f3 := (M.row 2 rfl).frozen 3
      rw [d4] at c3
      simp only [List.getD_cons_zero, List.getD_cons_succ] at c3
      have M' := M.setCell 2 rfl 3 (U64 (nb K / 18446744073709551616 / 18446744073709551616 / 18446744073709551616 % 18446744073709551616 % 9223372036854775808))
      rw [us_set, d4] at M'
      simp only [List.set_cons_zero, List.set_cons_succ] at M'
      rw [← l3] at M'
      clear l3 d4 v3 M
      generalize nb K / 18446744073709551616 / 18446744073709551616 / 18446744073709551616 % 18446744073709551616 = x at hm c3 M'
      generalize x % 9223372036854775808 = x' at hm M'
      have L4 := Lib.hid (dg_length 18446744073709551616 (nb K % 57896044618658097711785492504343953926634992332820282019728792003956564819968) 4)
      generalize dg 18446744073709551616 (nb K % 57896044618658097711785492504343953926634992332820282019728792003956564819968) 4 = ys at M' H1 L4
      go_upto_region 8 with fail
      change Code.wp _ _ _ _ (wr.setCell ⟨w.heap.size + 1 + 1, 3, none⟩ (U64 x'))
      generalize wr.setCell ⟨w.heap.size + 1 + 1, 3, none⟩ (U64 x') = w1 at M' ⊢
      clear c3 f3 hm wr
      have r2 := M'.row 2 rfl
      go_wp2_with (refine wpList_load_row rfl 38 (.tmp 3) rfl (w.heap.size + 1 + 1) rfl 38 (us ys) (0, 0) _ r2 Try.underlying38 rfl (info4 ys L4.out) ?_)
      go_at_call 31
      refine (H1.out _).mono ?_
      rintro e w3 ⟨rfl, hb1⟩
      clear r2 H1
      replace M' := M'.step hb1
      clear hb1 w1
      have r1 := M'.row 1 rfl
      go_wp2_with (refine wpList_store_row rfl 39 (.tmp 2) (.tmp 28) rfl (w.heap.size + 1) (el (placeN K)) rfl rfl 39 z4 r1 (el_info _) (el_z4 _) (us_one _) ?_)
      replace M' := M'.store 1 rfl (el (placeN K))
      simp only [List.set_cons_zero, List.set_cons_succ] at M'
      exact bodyPost_ret (v := .agg (el (placeN K))) (results_cell_row rfl _ _ (w.heap.size + 1) 39 (el (placeN K)) (0, 0) _ rfl (M'.row 1 rfl) Try.underlying39 rfl (el_info _)) rfl ⟨rfl, M'.below⟩
theorem padB_set (xs : List UInt8) (n j : Nat) (hj : j < xs.length) (hn : j < n) : (xs.take j ++ List.replicate (n - j) 0).set j (xs.getD j 0) = xs.take (j + 1) ++ List.replicate (n - (j + 1)) 0 := by
  have hl : (xs.take j).length = j := by rw [List.length_take]; omega
  rw [List.set_append_right _ _ (by omega), hl, Nat.sub_self, show n - j = (n - (j + 1)) + 1 from by omega, List.replicate_succ, List.set_cons_zero, List.take_succ_eq_append_getElem hj, List.getD_eq_getElem?_getD, List.getElem?_eq_getElem hj]
  simp only [Option.getD_some, List.append_assoc, List.cons_append, List.nil_append]
theorem padB_length (xs : List UInt8) (n j : Nat) (hj : j ≤ xs.length) (hn : j ≤ n) : (xs.take j ++ List.replicate (n - j) 0).length = n := by
  rw [List.length_append, List.length_take, List.length_replicate]; omega
theorem key_byte (X i : Nat) : X / 18446744073709551616 ^ (i / 8) % 18446744073709551616 / 2 ^ (8 * (i % 8)) % 256 = X / 256 ^ i % 256 := by
  rw [pow_split i, ← Nat.div_div_eq_div_mul]
  have hd : 18446744073709551616 = 2 ^ (8 * (i % 8)) * (256 * 2 ^ (56 - 8 * (i % 8))) := by
    rw [show (256 : Nat) = 2 ^ 8 from by decide, ← Nat.pow_add, ← Nat.pow_add, show 8 * (i % 8) + (8 + (56 - 8 * (i % 8))) = 64 from by omega]
  generalize X / 18446744073709551616 ^ (i / 8) = Y
  conv => lhs; rw [hd]
  rw [Nat.mod_mul_right_div_self, Nat.mod_mul_right_mod]
set_option maxHeartbeats 2000000 in
theorem key_any (X : Nat) (w : World) :
    Calls Try.prog 23 #[.agg (el X)] w fun e w' => e = .returned (.agg (bs (lowB X 32))) ∧ Below w.heap.size w w' := by
  have M0 : Mem w [(w.heap.size, 39, el X), (w.heap.size + 1, 23, bs (List.replicate 32 0)), (w.heap.size + 1 + 1, 23, bs ((lowB X 32).take 0 ++ List.replicate (32 - 0) 0))] (((w.alloc (.cells (el X) 39)).alloc (.cells (bs (List.replicate 32 0)) 23)).alloc (.cells (bs (List.replicate 32 0)) 23)) :=
    (((Mem.init w).alloc _ rfl _ _).alloc _ (by simp) _ _).alloc _ (by simp) _ _
  have lz := lowB_length X 32
  have hg : ∀ i, i < 32 → (lowB X 32).getD i 0 = UInt8.ofNat (X / 256 ^ i % 256) := fun i h => lowB_getD X 32 i h
  generalize lowB X 32 = zs at M0 lz hg ⊢
  have HZ := Lib.hid lz
  have HG := Lib.hid hg
  clear lz hg
  go_enter Try.func23, Try.ntmps23
  go_upto_region 2 with fail
  change Code.wp _ _ _ _ (((w.alloc (.cells (el X) 39)).alloc (.cells (bs (List.replicate 32 0)) 23)).alloc (.cells (bs (List.replicate 32 0)) 23))
  generalize ((w.alloc (.cells (el X) 39)).alloc (.cells (bs (List.replicate 32 0)) 23)).alloc (.cells (bs (List.replicate 32 0)) 23) = w0 at M0 ⊢
  go_wp2
  go_loopw [5] (fun i wr => ∃ j : Nat, j ≤ 32 ∧ i = .int .i64 (j : Int) ∧ Mem w [(w.heap.size, 39, el X), (w.heap.size + 1, 23, bs (List.replicate 32 0)), (w.heap.size + 1 + 1, 23, bs (zs.take j ++ List.replicate (32 - j) 0))] wr) (fun i _ => 32 - (intOf i).toNat)
  case atStart => exact ⟨0, by omega, rfl, M0⟩
  case round =>
    clear M0 w0
    obtain ⟨j, hj, rfl, M⟩ := hrel
    by_cases hlt : j < 32
    · have hb : decide ((j : Int) < 32) = true := by simp; omega
      have c1 := (M.row 0 rfl).u64 (j / 8) (by rw [elL_length]; omega)
      have e1 : (elL X).getD (j / 8) 0 = X / 18446744073709551616 ^ (j / 8) % 18446744073709551616 := dg_getD _ _ _ _ (by omega)
      rw [e1] at c1
      have kb := key_byte X j
      have h8 := HG.out j hlt
      have xl : X / 18446744073709551616 ^ (j / 8) % 18446744073709551616 < 18446744073709551616 := Nat.mod_lt _ (by omega)
      obtain ⟨b, hb8⟩ : ∃ b, b = zs.getD j 0 := ⟨_, rfl⟩
      rw [← hb8] at h8
      rw [← kb] at h8
      clear kb e1
      generalize X / 18446744073709551616 ^ (j / 8) % 18446744073709551616 = x at c1 xl h8
      have hbyte : (x : Int) / 2 ^ (8 * (j % 8)) % 256 = (b.toNat : Int) := by
        rw [h8, UInt8.toNat_ofNat']
        simp
      have c2 := (M.row 2 rfl).byte j (by rw [padB_length _ _ _ (by rw [HZ.out]; omega) (by omega)]; omega)
      have f2 := (M.row 2 rfl).frozen j
      generalize (zs.take j ++ List.replicate (32 - j) 0).getD j 0 = old at c2
      have M' := M.setCell 2 rfl j (B8 b)
      simp only [List.set_cons_zero, List.set_cons_succ] at M'
      rw [bs_set, hb8, padB_set zs 32 j (by rw [HZ.out]; omega) hlt, ← hb8] at M'
      have q0 : (0 : Int) ≤ (j : Int) / 8 := by omega
      have q3 : ¬ ((32 : Int) ≤ (j : Int)) := by omega
      clear h8 hb8 M xl
      go_wp2
      go_roundw
      case rel => exact ⟨j + 1, by omega, by go_num, M'⟩
      case measure => simp [intOf]; omega
    · have hj32 : j = 32 := by omega
      subst hj32
      rw [show (((32 : Nat) : Int)) = 32 from rfl]
      have hb : decide ((32 : Int) < 32) = false := by decide
      rw [List.take_of_length_le (by rw [HZ.out]; omega), Nat.sub_self, List.replicate_zero, List.append_nil] at M
      have r2 := M.row 2 rfl
      have r1 := M.row 1 rfl
      have hi : (Try.prog.info? 23).map (·.size) = some (bs zs).size := by rw [bs_size, HZ.out]; exact (by kernel_rfl : (Try.prog.info? 23).map (·.size) = some 32)
      have hz : (bs (List.replicate 32 0)).size = (bs zs).size := by rw [bs_size, bs_size, HZ.out]; rfl
      go_wp2_with (first
        | (refine wpList_load_row rfl 23 (.tmp 3) rfl (w.heap.size + 1 + 1) rfl 23 (bs zs) (0, 0) _ r2 Try.underlying23 rfl hi ?_)
        | (refine wpList_store_row rfl 23 (.tmp 2) (.tmp 20) rfl (w.heap.size + 1) (bs zs) rfl rfl 23 (bs (List.replicate 32 0)) r1 hi hz (bs_one _) ?_))
      replace M := M.store 1 rfl (bs zs)
      simp only [List.set_cons_zero, List.set_cons_succ] at M
      exact bodyPost_ret (v := .agg (bs zs)) (results_cell_row rfl _ _ (w.heap.size + 1) 23 (bs zs) (0, 0) _ rfl (M.row 1 rfl) Try.underlying23 rfl hi) rfl ⟨rfl, M.below⟩
end Go.Proofs.Ytdikkdediofieaa
