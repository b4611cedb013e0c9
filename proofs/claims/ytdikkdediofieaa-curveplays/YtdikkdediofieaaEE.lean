/- curve.folded: walked. -/
import Derived.Test.YtdikkdediofieaaED
import Derived.Test.YtdikkdediofieaaHF
namespace Go.Proofs.Ytdikkdediofieaa
open Go.RowKit
set_option maxHeartbeats 2000000 in
theorem folded_any (L : Nat) (hL : L < 3351951982485649274893506249551461531869841455148098344430890360930441007518386744200468574541725856922507964546621512713438470702986642486608412251521024) (w : World) :
    Calls Try.prog 33 #[.agg (us (dg 18446744073709551616 L 8))] w fun e w' => e = .returned (.agg (us (dg 18446744073709551616 (fld L) 4))) ∧ Below w.heap.size w w' := by
  obtain ⟨l, hl⟩ : ∃ l, l = dg 18446744073709551616 L 8 := ⟨_, rfl⟩
  have ll : l.length = 8 := by rw [hl, dg_length]
  have dl : Dig 18446744073709551616 l := by rw [hl]; exact dg_dig _ _ _ (by omega)
  obtain ⟨p1, p2⟩ := fold_parts L
  rw [← hl] at p1 p2 ⊢
  have hE : FoldEnv w l ([] ++ List.replicate 4 0) ([] ++ List.replicate 4 0) ((((w.alloc (.cells (us l) 53)).alloc (.cells z4 38)).alloc (.cells z4 38)).alloc (.cells z4 38)) := by
    obtain ⟨i1, i2, i3, hb⟩ := three_new w (us l) z4 z4 53 38 38
    refine ⟨i1.alloc _, i2.alloc _, i3.alloc _, ?_, hb.alloc (by simp; omega) _⟩
    have h := Has.fresh (((w.alloc (.cells (us l) 53)).alloc (.cells z4 38)).alloc (.cells z4 38)) 38 z4
    rw [alloc_size, alloc_size, alloc_size] at h
    exact h
  have hF := fld1_lt L hL
  have hfl := fld_lt L hL
  obtain ⟨zs, hzs⟩ : ∃ zs, zs = dg 18446744073709551616 (fld L) 4 := ⟨_, rfl⟩
  have hz4 : zs.length = 4 := by rw [hzs, dg_length]
  rw [← hzs]
  have HZ := Lib.hid hzs
  have L2 := Lib.hid hz4
  clear hzs hz4
  have HP1 := Lib.hid p1
  have HP2 := Lib.hid p2
  have HL := Lib.hid ll
  clear hl p1 p2 ll
  go_enter Try.func33, Try.ntmps33
  go_upto_region 2 with fail
  change Code.wp _ _ _ _ ((((w.alloc (.cells (us l) 53)).alloc (.cells z4 38)).alloc (.cells z4 38)).alloc (.cells z4 38))
  generalize (((w.alloc (.cells (us l) 53)).alloc (.cells z4 38)).alloc (.cells z4 38)).alloc (.cells z4 38) = w0 at hE ⊢
  go_wp2
  go_loopw [9] (fun i wr => ∃ j : Nat, j ≤ 4 ∧ i = .int .i64 (j : Int) ∧ FoldEnv w l ((loL l).take j ++ List.replicate (4 - j) 0) ((hiL l).take j ++ List.replicate (4 - j) 0) wr) (fun i _ => 4 - (intOf i).toNat)
  case atStart => exact ⟨0, by omega, rfl, hE⟩
  case round =>
    clear hE w0
    obtain ⟨j, hj, rfl, E⟩ := hrel
    by_cases hlt : j < 4
    · have hjb : decide ((j : Int) < 4) = true := by simp; omega
      have c1 := E.1.u64 j (by rw [HL.out]; omega)
      have c2 := E.2.2.1.u64 j (by rw [pad_length _ _ _ (by rw [loL_length]; omega) (by omega)]; omega)
      have f2 := E.2.2.1.frozen j
      have j8 : ¬ ((8 : Int) ≤ (j : Int)) := by omega
      have j4 : ¬ ((4 : Int) ≤ (j : Int)) := by omega
      obtain ⟨v, hv⟩ : ∃ v, v = (loL l).getD j 0 := ⟨_, rfl⟩
      rw [← loL_get l j hlt, ← hv] at c1
      have E' := E.putA j v
      rw [hv, pad_set (loL l) 4 j (by rw [loL_length]; omega) hlt, ← hv] at E'
      clear hv
      go_wp2_with fail
      change Code.wp _ _ _ _ (wr.setCell ⟨w.heap.size + 1 + 1, j, none⟩ (U64 v))
      generalize wr.setCell ⟨w.heap.size + 1 + 1, j, none⟩ (U64 v) = w1 at E' ⊢
      have g1 : ∀ W, Below w1.drew.heap.size w1.drew W → W.cell? ⟨w.heap.size, j + 3, none⟩ = some (U64 (l.getD (j + 3) 0)) := fun W h => (E'.drew.step h).1.u64 _ (by rw [HL.out]; omega)
      have g2 : ∀ W, Below w1.drew.heap.size w1.drew W → W.cell? ⟨w.heap.size, j + 4, none⟩ = some (U64 (l.getD (j + 4) 0)) := fun W h => (E'.drew.step h).1.u64 _ (by rw [HL.out]; omega)
      obtain ⟨h, hh⟩ : ∃ h, h = (hiL l).getD j 0 := ⟨_, rfl⟩
      have hg := hiL_get l j hlt
      rw [← hh] at hg
      have hx : l.getD (j + 3) 0 < 18446744073709551616 := dl.getD (by omega) _
      generalize l.getD (j + 3) 0 = x at g1 hx hg
      generalize l.getD (j + 4) 0 = y at g2 hg
      have hor := or_shift x y hx
      rw [← hg] at hor
      clear hx
      clear c1 c2 f2 E
      have a4 : IntKind.i64.wrap ((j : Int) + 4) = (j : Int) + 4 := IntWalk.i64_in _ ⟨by omega, by omega⟩
      have a3 : IntKind.i64.wrap ((j : Int) + 4 - 1) = (j : Int) + 3 := by rw [IntWalk.i64_in _ ⟨by omega, by omega⟩]; omega
      have n3 : ((j : Int) + 3).toNat = j + 3 := by omega
      have n4 : ((j : Int) + 4).toNat = j + 4 := by omega
      have b3 : (0 : Int) ≤ (j : Int) + 3 := by omega
      have b4 : (0 : Int) ≤ (j : Int) + 4 := by omega
      have d3 : (j : Int) + 3 < 8 := by omega
      have d4 : (j : Int) + 4 < 8 := by omega
      refine wp_region_noPanic ?_
      refine wp_region_flow (fin := ?fin1) 14 1 (by kernel_rfl) [.inl (.int .i64 (j : Int)),
        .inl (.int .i64 (j : Int)),
        .inl (.int .i64 ((j : Int) + 4)),
        .inl (.int .i64 ((j : Int) + 3)),
        .inl (.pointer (some ⟨w.heap.size, j + 3, none⟩)),
        .inl (U64 x),
        .inl (.int .u64 ((x : Int) / 9223372036854775808)),
        .inl (.int .i64 (j : Int)),
        .inl (.int .i64 ((j : Int) + 4)),
        .inl (.pointer (some ⟨w.heap.size, j + 4, none⟩)),
        .inl (U64 y),
        .inl (.int .u64 (IntKind.u64.wrap ((y : Int) * 2))),
        .inl (U64 h),
        .inl (.pointer (some ⟨w.heap.size + 1 + 1 + 1, j, none⟩))] rfl rfl (by kernel_rfl) ?hfin1 ?hE1 ?hend1
      case hfin1 =>
        intro G
        simp only [flowAll, flowVal, Act.put, List.setIfInBounds_toArray, List.set_cons_zero, List.set_cons_succ]
        exact rfl
      case hE1 =>
        intro G
        refine ⟨Or.inr (fun W hB => known_val rfl (by go_simp)),
          Or.inr (fun W hB => known_val rfl (by go_simp)),
          Or.inr (fun W hB => known_val rfl (by go_simp)),
          Or.inr (fun W hB => known_val rfl (by go_simp)),
          Or.inr (fun W hB => known_val rfl (by go_simp)),
          Or.inr (fun W hB => known_val rfl (by have := g1 W hB; go_simp)),
          Or.inr (fun W hB => known_val rfl (by go_simp)),
          Or.inr (fun W hB => known_val rfl (by go_simp)),
          Or.inr (fun W hB => known_val rfl (by go_simp)),
          Or.inr (fun W hB => known_val rfl (by go_simp)),
          Or.inr (fun W hB => known_val rfl (by have := g2 W hB; go_simp)),
          Or.inr (fun W hB => known_val rfl (by go_simp)),
          Or.inr (fun W hB => known_val rfl (by go_simp)),
          Or.inr (fun W hB => known_val rfl (by go_simp)), trivial⟩
      clear g1 g2 a4 a3 n3 n4 b3 b4 d3 d4
      intro G W hB hM
      clear hM
      replace E' := E'.drew.step hB
      clear hB
      have c2 := E'.2.2.2.1.u64 j (by rw [pad_length _ _ _ (by rw [hiL_length]; omega) (by omega)]; omega)
      have f2 := E'.2.2.2.1.frozen j
      refine only0 14 (W.setCell ⟨w.heap.size + 1 + 1 + 1, j, none⟩ (U64 h)) _ (by kernel_rfl) rfl rfl rfl (by go_simp) ?_
      clear c2 f2
      replace E' := E'.putB j h
      rw [hh, pad_set (hiL l) 4 j (by rw [hiL_length]; omega) hlt] at E'
      refine wpAny_end (by kernel_rfl) ?_ _
      refine NoPanic.normal ?_
      rw [hh]
      generalize W.setCell ⟨w.heap.size + 1 + 1 + 1, j, none⟩ (U64 ((hiL l).getD j 0)) = w2 at E' ⊢
      clear hh hg hor
      go_wp2
      go_roundw
      case rel => exact ⟨j + 1, by omega, by go_num, E'⟩
      case measure => simp [intOf]; omega
    · have hj4 : j = 4 := by omega
      subst hj4
      rw [show (((4 : Nat) : Int)) = 4 from rfl]
      have hjb : decide ((4 : Int) < 4) = false := by decide
      rw [List.take_of_length_le (by rw [loL_length]; omega), List.take_of_length_le (by rw [hiL_length]; omega), List.replicate_zero, List.append_nil, List.append_nil] at E
      have v3 : (loL l).getD 3 0 < 18446744073709551616 := by rw [loL_get l 3 (by omega)]; exact dl.getD (by omega) 3
      have E' := E.putA 3 ((loL l).getD 3 0 % 9223372036854775808)
      rw [HP1.out, HP2.out] at E'
      have c3 := E.2.2.1.u64 3 (by rw [loL_length]; omega)
      have f3 := E.2.2.1.frozen 3
      have hm := and63 _ v3
      generalize (loL l).getD 3 0 = v at c3 hm E'
      generalize v % 9223372036854775808 = v' at hm E'
      clear E v3
      go_upto_region 9 with fail
      change Code.wp _ _ _ _ (wr.setCell ⟨w.heap.size + 1 + 1, 3, none⟩ (U64 v'))
      generalize wr.setCell ⟨w.heap.size + 1 + 1, 3, none⟩ (U64 v') = w1 at E' ⊢
      clear c3 f3 hm wr
      obtain ⟨lo, hlo⟩ : ∃ lo, lo = dg 18446744073709551616 (L % 57896044618658097711785492504343953926634992332820282019728792003956564819968) 4 := ⟨_, rfl⟩
      obtain ⟨hi, hhi⟩ : ∃ hi, hi = dg 18446744073709551616 (L / 57896044618658097711785492504343953926634992332820282019728792003956564819968) 4 := ⟨_, rfl⟩
      rw [← hlo, ← hhi] at E'
      have llo : lo.length = 4 := by rw [hlo, dg_length]
      have lhi : hi.length = 4 := by rw [hhi, dg_length]
      have dlo : Dig 18446744073709551616 lo := by rw [hlo]; exact dg_dig _ _ _ (by omega)
      have dhi : Dig 18446744073709551616 hi := by rw [hhi]; exact dg_dig _ _ _ (by omega)
      have hsum : num 18446744073709551616 lo + 19 * num 18446744073709551616 hi = fld1 L := by
        have e : (18446744073709551616 : Nat) ^ 4 = 115792089237316195423570985008687907853269984665640564039457584007913129639936 := by decide
        have b1 : L % 57896044618658097711785492504343953926634992332820282019728792003956564819968 < 115792089237316195423570985008687907853269984665640564039457584007913129639936 := Nat.lt_trans (Nat.mod_lt _ (by omega)) (by decide)
        have b2 : L / 57896044618658097711785492504343953926634992332820282019728792003956564819968 < 115792089237316195423570985008687907853269984665640564039457584007913129639936 := Nat.lt_of_lt_of_le (Nat.div_lt_of_lt_mul (Nat.lt_of_lt_of_le hL (by decide : 3351951982485649274893506249551461531869841455148098344430890360930441007518386744200468574541725856922507964546621512713438470702986642486608412251521024 ≤ 57896044618658097711785492504343953926634992332820282019728792003956564819968 * 57896044618658097711785492504343953926634992332820282019728792003956564819968))) (by decide)
        rw [hlo, hhi, num_dg, num_dg, e, Nat.mod_eq_of_lt b1, Nat.mod_eq_of_lt b2]
        rfl
      have HS := Lib.hid hsum
      have HLO := Lib.hid llo
      have HHI := Lib.hid lhi
      clear hsum hlo hhi llo lhi HP1 HP2
      go_wp2
      go_loopw [6, 36] (fun c i wr => ∃ (j : Nat) (k : Nat) (o : List Nat), j ≤ 4 ∧ i = .int .i64 (j : Int) ∧ c = U64 k ∧ k ≤ 20 ∧ o.length = 4 ∧ Dig 18446744073709551616 o ∧ num 18446744073709551616 (o.take j) + k * 18446744073709551616 ^ j = num 18446744073709551616 (lo.take j) + 19 * num 18446744073709551616 (hi.take j) ∧ o.drop j = lo.drop j ∧ FoldEnv w l o hi wr) (fun _ i _ => 4 - (intOf i).toNat)
      case atStart => exact ⟨0, 0, lo, by omega, rfl, rfl, by omega, HLO.out, dlo, by simp [num], rfl, E'⟩
      case round =>
        clear E' w1
        obtain ⟨j, k, o, hj, rfl, rfl, hk, lo4, do', hn, hd, E⟩ := hrel
        by_cases hlt : j < 4
        · have hjb : decide ((j : Int) < 4) = true := by simp; omega
          have j4 : ¬ ((4 : Int) ≤ (j : Int)) := by omega
          obtain ⟨s, hs⟩ : ∃ s, s = hi.getD j 0 * 19 + o.getD j 0 + k := ⟨_, rfl⟩
          have hnx := fold_round o lo hi j k s hlt lo4 HLO.out HHI.out hn hd hs
          have h1 : hi.getD j 0 < 18446744073709551616 := dhi.getD (by omega) j
          have h2 : o.getD j 0 < 18446744073709551616 := do'.getD (by omega) j
          have hs1 : s / 18446744073709551616 ≤ 20 := by omega
          have hs2 : s % 18446744073709551616 < 18446744073709551616 := Nat.mod_lt _ (by omega)
          have hdx : (o.set j (s % 18446744073709551616)).drop (j + 1) = lo.drop (j + 1) := by rw [drop_set_lt o j _ _ (by omega)]; exact drop_succ_of o lo j hd
          have hlo' : (o.set j (s % 18446744073709551616)).length = 4 := by rw [List.length_set, lo4]
          have hdo := do'.set j hs2
          have hcall : ∀ W, Calls Try.prog 32 #[U64 (hi.getD j 0), .int .u64 19, U64 (o.getD j 0), U64 k] W fun e W' => e = .returned (.tuple #[U64 (s / 18446744073709551616), U64 (s % 18446744073709551616)]) ∧ Below W.heap.size W W' := fun W =>
            (taken_any (hi.getD j 0) 19 (o.getD j 0) k h1 (by omega) h2 (by omega) W).mono (by rintro e W' ⟨rfl, rfl⟩; exact ⟨by rw [hs], Below.refl _ _⟩)
          have g1 : ∀ W, Below wr.drew.heap.size wr.drew W → W.cell? ⟨w.heap.size + 1 + 1 + 1, j, none⟩ = some (U64 (hi.getD j 0)) := fun W h => (E.drew.step h).2.2.2.1.u64 _ (by rw [HHI.out]; omega)
          have g2 : ∀ W, Below wr.drew.heap.size wr.drew W → W.cell? ⟨w.heap.size + 1 + 1, j, none⟩ = some (U64 (o.getD j 0)) := fun W h => (E.drew.step h).2.2.1.u64 _ (by omega)
          generalize s % 18446744073709551616 = s0 at hnx hdx hlo' hdo hcall hs2
          generalize s / 18446744073709551616 = s1 at hnx hcall hs1
          generalize hi.getD j 0 = a at g1 hcall
          generalize o.getD j 0 = b at g2 hcall
          have HC := Lib.hid hcall
          have HNX := Lib.hid hnx
          have HDX := Lib.hid hdx
          have HLO' := Lib.hid hlo'
          have HDO := Lib.hid hdo
          have HL4 := Lib.hid lo4
          clear hcall hnx hdx hlo' hdo hs hn hd do' lo4 h1 h2 hs2
          go_wp2_with fail
          refine wp_region_noPanic ?_
          refine wp_region_drew (by kernel_rfl) ?_
          refine take0 7 47 (U64 k) _ rfl (by kernel_rfl) (by kernel_rfl) (by kernel_rfl) (fun _ _ _ h => h) rfl rfl (fun w' => by go_simp) ?_
          simp only [Act.put, List.setIfInBounds_toArray, List.set_cons_zero, List.set_cons_succ]
          refine wpAny_flow_pre (fin := ?fin2) 14 1 [7] [.inl (.int .i64 (j : Int)),
            .inl (.int .i64 (j : Int)),
            .inl (.pointer (some ⟨w.heap.size + 1 + 1 + 1, j, none⟩)),
            .inl (U64 a),
            .inl (.int .i64 (j : Int)),
            .inl (.pointer (some ⟨w.heap.size + 1 + 1, j, none⟩)),
            .inl (U64 b),
            .inl (U64 k),
            .inl (.tuple #[U64 s1, U64 s0]),
            .inl (.tuple #[U64 s1, U64 s0]),
            .inl (U64 s1),
            .inl (U64 s0),
            .inl (U64 s1),
            .inl (.pointer (some ⟨w.heap.size + 1 + 1, j, none⟩))] rfl rfl (by kernel_rfl) rfl (by kernel_rfl) (by kernel_rfl) rfl ?hfin2 ?hE2 ?hend2
          case hfin2 =>
            intro G
            simp only [flowAll, flowVal, Act.put, List.setIfInBounds_toArray, List.set_cons_zero, List.set_cons_succ]
            exact rfl
          case hE2 =>
            intro G
            refine ⟨Or.inr (fun W hB => known_val rfl (by go_simp)),
              Or.inr (fun W hB => known_val rfl (by go_simp)),
              Or.inr (fun W hB => known_val rfl (by go_simp)),
              Or.inr (fun W hB => known_val rfl (by have := g1 W hB; go_simp)),
              Or.inr (fun W hB => known_val rfl (by go_simp)),
              Or.inr (fun W hB => known_val rfl (by go_simp)),
              Or.inr (fun W hB => known_val rfl (by have := g2 W hB; go_simp)),
              Or.inl rfl,
              Or.inr (fun W hB => known_call 32 #[U64 a, .int .u64 19, U64 b, U64 k] (HC.out W) rfl (by go_simp)),
              Or.inr (fun W hB => known_val rfl (by go_simp)),
              Or.inr (fun W hB => known_val rfl (by go_simp)),
              Or.inr (fun W hB => known_val rfl (by go_simp)),
              Or.inr (fun W hB => known_val rfl (by go_simp)),
              Or.inr (fun W hB => known_val rfl (by go_simp)), trivial⟩
          intro G W hB hM
          clear hM
          clear g1 g2 HC
          replace E := E.drew.step hB
          clear hB
          have c2 := E.2.2.1.u64 j (by rw [HL4.out]; omega)
          have f2 := E.2.2.1.frozen j
          refine only0 14 (W.setCell ⟨w.heap.size + 1 + 1, j, none⟩ (U64 s0)) _ (by kernel_rfl) rfl rfl rfl (by go_simp) ?_
          clear c2 f2
          replace E := E.putA j s0
          refine wpAny_end (by kernel_rfl) ?_ _
          refine NoPanic.normal ?_
          generalize W.setCell ⟨w.heap.size + 1 + 1, j, none⟩ (U64 s0) = w2 at E ⊢
          go_wp2
          go_roundw
          case rel => exact ⟨j + 1, s1, o.set j s0, by omega, by go_num, rfl, hs1, HLO'.out, HDO.out, HNX.out, HDX.out, E⟩
          case measure => simp [intOf]; omega
        · have hj4 : j = 4 := by omega
          subst hj4
          have hjb : decide (((4 : Nat) : Int) < 4) = false := by decide
          rw [List.take_of_length_le (by omega), List.take_of_length_le (by rw [HLO.out]; omega), List.take_of_length_le (by rw [HHI.out]; omega), HS.out] at hn
          obtain ⟨q1, q2, q3⟩ := fold_done o k (fld1 L) lo4 do' hn hF
          have v3 : o.getD 3 0 < 18446744073709551616 := do'.getD (by omega) 3
          have hor := or_top k (o.getD 3 0) (by omega) v3
          rw [q2] at hor
          have hm := and63 _ v3
          have E' := E.putA 3 (o.getD 3 0 % 9223372036854775808)
          rw [q1] at E'
          have c3 := E.2.2.1.u64 3 (by omega)
          have f3 := E.2.2.1.frozen 3
          have hab : fld1 L / 57896044618658097711785492504343953926634992332820282019728792003956564819968 ≤ 19 := by omega
          have hw1 : IntKind.u64.wrap (19 * ((fld1 L / 57896044618658097711785492504343953926634992332820282019728792003956564819968 : Nat) : Int)) = ((19 * (fld1 L / 57896044618658097711785492504343953926634992332820282019728792003956564819968) : Nat) : Int) := by rw [IntKind.wrap_u64]; omega
          have h1 := added_any (fld1 L % 57896044618658097711785492504343953926634992332820282019728792003956564819968) (19 * (fld1 L / 57896044618658097711785492504343953926634992332820282019728792003956564819968))
          rw [us_word (19 * (fld1 L / 57896044618658097711785492504343953926634992332820282019728792003956564819968)) (by omega), show fld1 L % 57896044618658097711785492504343953926634992332820282019728792003956564819968 + 19 * (fld1 L / 57896044618658097711785492504343953926634992332820282019728792003956564819968) = fld L from rfl, ← HZ.out] at h1
          have l1 : (dg 18446744073709551616 (fld1 L % 57896044618658097711785492504343953926634992332820282019728792003956564819968) 4).length = 4 := dg_length _ _ _
          generalize o.getD 3 0 = v at c3 hor hm E'
          generalize v % 9223372036854775808 = v' at hm E'
          generalize fld1 L / 57896044618658097711785492504343953926634992332820282019728792003956564819968 = ab at hor hw1 h1
          generalize 19 * ab = ab19 at hw1 h1
          generalize dg 18446744073709551616 (fld1 L % 57896044618658097711785492504343953926634992332820282019728792003956564819968) 4 = ys at E' h1 l1
          have H1 := Lib.hid h1
          have L1 := Lib.hid l1
          clear h1 l1 q1 q2 hn hd lo4 do' v3 hL hfl hF E
          go_upto_region 17 with fail
          change Code.wp _ _ _ _ (wr.setCell ⟨w.heap.size + 1 + 1, 3, none⟩ (U64 v'))
          generalize wr.setCell ⟨w.heap.size + 1 + 1, 3, none⟩ (U64 v') = w1 at E' ⊢
          clear c3 f3 hm hor wr
          go_wp2_with (refine wpList_load_row rfl 38 (.tmp 3) rfl (w.heap.size + 1 + 1) rfl 38 (us ys) (0, 0) _ E'.2.2.1 Try.underlying38 rfl (info4 ys L1.out) ?_)
          go_at_call 37
          refine (H1.out _).mono ?_
          rintro e w3 ⟨rfl, hb⟩
          replace E' := E'.step hb
          clear hb H1 w1
          go_wp2_with (refine wpList_store_row rfl 38 (.tmp 2) (.tmp 67) rfl (w.heap.size + 1) (us zs) rfl rfl 38 z4 E'.2.1 (info4 zs L2.out) (z4_size zs L2.out) (us_one _) ?_)
          refine bodyPost_ret (v := .agg (us zs)) (results_cell_row rfl _ _ (w.heap.size + 1) 38 (us zs) (0, 0) _ rfl (E'.2.1.setRow _) Try.underlying38 rfl (info4 zs L2.out)) rfl ⟨rfl, below_setRow E'.2.2.2.2 (by omega) _⟩
end Go.Proofs.Ytdikkdediofieaa
