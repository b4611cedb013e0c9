/- The walk of law CurveClamps. -/
import Derived.Test.YtdikkdediofieaaEO
namespace Go.Proofs.Ytdikkdediofieaa
open Go.RowKit
theorem byte_all (p : Nat → Bool) (h : ∀ n : Fin 256, p n.val = true) (x : UInt8) : p x.toNat = true := h ⟨x.toNat, x.toNat_lt⟩
theorem and248_7 (x : UInt8) : ((x &&& 248) &&& 7) = 0 := by
  have h := byte_all (fun n => (UInt8.ofNat n &&& 248) &&& 7 == 0) (by decide +kernel) x
  simpa using h
theorem and248_twice (x : UInt8) : ((x &&& 248) &&& 248) = x &&& 248 := by
  have h := byte_all (fun n => (UInt8.ofNat n &&& 248) &&& 248 == UInt8.ofNat n &&& 248) (by decide +kernel) x
  simpa using h
theorem top_twice (x : UInt8) : ((((x &&& 127) ||| 64) &&& 127) ||| 64) = (x &&& 127) ||| 64 := by
  have h := byte_all (fun n => (((UInt8.ofNat n &&& 127) ||| 64) &&& 127) ||| 64 == (UInt8.ofNat n &&& 127) ||| 64) (by decide +kernel) x
  simpa using h
theorem top_six (x : UInt8) : ((x &&& 127) ||| 64).toNat / 64 = 1 := by
  have h := byte_all (fun n => ((UInt8.ofNat n &&& 127) ||| 64).toNat / 64 == 1) (by decide +kernel) x
  simpa using h
theorem xor128 (x : UInt8) : (x ^^^ 128).toNat % 128 = x.toNat % 128 := by
  have h := byte_all (fun n => (UInt8.ofNat n ^^^ 128).toNat % 128 == (UInt8.ofNat n).toNat % 128) (by decide +kernel) x
  simpa using h
section
variable (l : List UInt8) (h : l.length = 32)
include h
theorem kclamp_0 : (kclamp l).getD 0 0 = l.getD 0 0 &&& 248 := by unfold kclamp; rw [getD_set_ne8 _ _ _ _ (by omega), getD_set_self8 _ _ _ (by omega)]
theorem kclamp_31 : (kclamp l).getD 31 0 = (l.getD 31 0 &&& 127) ||| 64 := by unfold kclamp; rw [getD_set_self8 _ _ _ (by rw [List.length_set]; omega)]
omit h in
theorem kclamp_other (i : Nat) (h0 : i ≠ 0) (h1 : i ≠ 31) : (kclamp l).getD i 0 = l.getD i 0 := by unfold kclamp; rw [getD_set_ne8 _ _ _ _ (by omega), getD_set_ne8 _ _ _ _ (by omega)]
theorem ext8 (m : List UInt8) (hm : m.length = 32) (he : ∀ i, i < 32 → l.getD i 0 = m.getD i 0) : l = m := by
  refine List.ext_getElem (by omega) (fun i h1 h2 => ?_)
  have := he i (by omega)
  rw [List.getD_eq_getElem?_getD, List.getElem?_eq_getElem h1, List.getD_eq_getElem?_getD, List.getElem?_eq_getElem h2] at this
  exact this
theorem kclamp_twice : kclamp (kclamp l) = kclamp l := by
  have hc := (kclamp_length l).trans h
  refine ext8 _ ((kclamp_length _).trans hc) _ hc (fun i hi => ?_)
  by_cases h0 : i = 0
  · subst h0; rw [kclamp_0 _ hc, kclamp_0 _ h, and248_twice]
  · by_cases h1 : i = 31
    · subst h1; rw [kclamp_31 _ hc, kclamp_31 _ h, top_twice]
    · rw [kclamp_other _ i h0 h1]
/-- a place takes no heed of the highest bit -/
theorem place_flip : placeN (l.set 31 (l.getD 31 0 ^^^ 128)) = placeN l := by
  have e : ∀ m : List UInt8, m.length = 32 → nb m % 57896044618658097711785492504343953926634992332820282019728792003956564819968 = nb (m.take 31) + (m.getD 31 0).toNat % 128 * 256 ^ 31 := fun m hm => by
    have h1 := nb_take_succ m 31 (by omega)
    rw [List.take_of_length_le (by omega)] at h1
    have h2 := nb_lt (m.take 31)
    rw [List.length_take, hm] at h2
    have e31 : (256 : Nat) ^ 31 = 452312848583266388373324160190187140051835877600158453279131187530910662656 := by decide
    have h3 := (m.getD 31 0).toNat_lt
    rw [show min 31 32 = 31 from rfl, e31] at h2
    rw [e31] at h1 ⊢
    omega
  unfold placeN
  rw [e _ (by rw [List.length_set]; exact h), e l h, getD_set_self8 _ _ _ (by omega), xor128, List.take_set_of_le (by omega)]
end
set_option maxRecDepth 20000 in
set_option maxHeartbeats 2000000 in
theorem clampsLaw_any (a : List UInt8) (ha : a.length = 32) (u : List UInt8) (hu : u.length = 32) (w : World) :
    Calls Try.prog 4 #[.agg (bs a), .agg (bs u)] w fun e w' => e = .returned (.bool true) ∧ Below w.heap.size w w' := by
  have M0 : Mem w [(w.heap.size, 23, bs a), (w.heap.size + 1, 23, bs u)] ((w.alloc (.cells (bs a) 23)).alloc (.cells (bs u) 23)) :=
    ((Mem.init w).alloc _ rfl _ _).alloc _ (by simp) _ _
  have hc := (kclamp_length a).trans ha
  have hv : (u.set 31 (u.getD 31 0 ^^^ 128)).length = 32 := by rw [List.length_set]; exact hu
  have p0 := kclamp_any a ha
  have p1 := shared_any (kclamp a) u hc hu
  have p2 := shared_any a u ha hu
  have p3 := kclamp_any (kclamp a) hc
  have p4 := shared_any a _ ha hv
  have e1 : sharedK (kclamp a) u = sharedK a u := by unfold sharedK; rw [kclamp_twice a ha]
  have e4 : sharedK a (u.set 31 (u.getD 31 0 ^^^ 128)) = sharedK a u := by unfold sharedK; rw [place_flip u hu]
  rw [e1] at p1
  rw [kclamp_twice a ha] at p3
  rw [e4] at p4
  have lR : (sharedK a u).length = 32 := lowB_length _ _
  have x7 : bits .and .u8 (((kclamp a).getD 0 0).toNat : Int) 7 = 0 := by
    have h := kand ((kclamp a).getD 0 0) 7 (by omega)
    have h2 := and248_7 (a.getD 0 0)
    rw [← kclamp_0 a ha] at h2
    change ((kclamp a).getD 0 0 &&& UInt8.ofNat 7) = 0 at h2
    rw [h2] at h
    exact h
  have s6 : (((kclamp a).getD 31 0).toNat : Int) / 64 = 1 := by
    have h := top_six (a.getD 31 0)
    rw [← kclamp_31 a ha] at h
    omega
  have x8 : bits .xor .u8 ((u.getD 31 0).toNat : Int) 128 = ((u.getD 31 0 ^^^ 128).toNat : Int) := by
    have h := u8_xor_nat (u.getD 31 0).toNat 128 (u.getD 31 0).toNat_lt (by omega)
    rw [UInt8.toNat_xor]
    exact h
  generalize sharedK a u = R at p1 p2 p4 lR
  generalize kclamp a = c at p0 p1 p3 hc x7 s6
  obtain ⟨v, hv0⟩ : ∃ v, v = u.set 31 (u.getD 31 0 ^^^ 128) := ⟨_, rfl⟩
  rw [← hv0] at p4 hv
  have P0 := Lib.hid p0
  have P1 := Lib.hid p1
  have P2 := Lib.hid p2
  have P3 := Lib.hid p3
  have P4 := Lib.hid p4
  have HV0 := Lib.hid hv0
  have HC := Lib.hid hc
  have HV := Lib.hid hv
  have HA := Lib.hid ha
  have HU := Lib.hid hu
  have HR := Lib.hid lR
  clear p0 p1 p2 p3 p4 hc hv ha hu lR e1 e4 hv0
  go_enter Try.func4, Try.ntmps4
  go_upto_region 1 with fail
  change Code.wp _ _ _ _ ((w.alloc (.cells (bs a) 23)).alloc (.cells (bs u) 23))
  generalize (w.alloc (.cells (bs a) 23)).alloc (.cells (bs u) 23) = w0 at M0 ⊢
  go_wp2_with fail
  go_at_call 10
  refine (awake6_any _).mono ?_
  rintro e w1 ⟨rfl, hb1⟩
  replace M0 := M0.step hb1
  clear hb1 w0
  have X7 := Lib.hid x7
  have S6 := Lib.hid s6
  clear x7 s6
  have r0 := M0.row 0 rfl
  go_wp2_with (refine wpList_load_row rfl 23 (.tmp 2) rfl w.heap.size rfl 23 (bs a) (0, 0) _ r0 Try.underlying23 rfl (kinfo a HA.out) ?_)
  go_at_call 13
  refine (P0.out _).mono ?_
  rintro e w2 ⟨rfl, hb1⟩
  clear r0 P0
  replace M0 := M0.step hb1
  clear hb1 w1
  have M1 := M0.alloc _ rfl 23 kz
  simp only [List.cons_append, List.nil_append] at M1
  have r5 := M1.row 2 rfl
  go_upto_region 4 with (refine wpList_store_row rfl 23 (.tmp 5) (.tmp 10) rfl w2.heap.size (bs c) rfl rfl 23 kz r5 (kinfo c HC.out) (kz_size c HC.out) (bs_one _) ?_)
  clear r5 M0
  replace M1 := M1.store 2 rfl (bs c)
  simp only [List.set_cons_zero, List.set_cons_succ] at M1
  change Code.wp _ _ _ _ ((w2.alloc (.cells kz 23)).setRow w2.heap.size (bs c))
  generalize (w2.alloc (.cells kz 23)).setRow w2.heap.size (bs c) = w3 at M1 ⊢
  generalize w2.heap.size = g5 at M1 ⊢
  clear w2
  have M2 := M1.alloc _ rfl 23 kz
  simp only [List.cons_append, List.nil_append] at M2
  have r1 := M1.row 1 rfl
  have r6 := M2.row 3 rfl
  go_upto_region 5 with (first
    | (refine wpList_load_row rfl 23 (.tmp 3) rfl (w.heap.size + 1) rfl 23 (bs u) (0, 0) _ r1 Try.underlying23 rfl (kinfo u HU.out) ?_)
    | (refine wpList_store_row rfl 23 (.tmp 6) (.tmp 11) rfl w3.heap.size (bs u) rfl rfl 23 kz r6 (kinfo u HU.out) (kz_size u HU.out) (bs_one _) ?_))
  clear r1 r6 M1
  replace M2 := M2.store 3 rfl (bs u)
  simp only [List.set_cons_zero, List.set_cons_succ] at M2
  change Code.wp _ _ _ _ ((w3.alloc (.cells kz 23)).setRow w3.heap.size (bs u))
  generalize (w3.alloc (.cells kz 23)).setRow w3.heap.size (bs u) = w4 at M2 ⊢
  generalize w3.heap.size = g6 at M2 ⊢
  clear w3
  have c1 := (M2.row 3 rfl).byte 31 (by rw [HU.out]; omega)
  have f1 := (M2.row 3 rfl).frozen 31
  replace M2 := M2.setCell 3 rfl 31 (B8 (u.getD 31 0 ^^^ 128))
  simp only [List.set_cons_zero, List.set_cons_succ] at M2
  rw [bs_set, ← HV0.out] at M2
  generalize u.getD 31 0 ^^^ 128 = x at x8 M2
  generalize u.getD 31 0 = x0 at x8 c1
  go_upto_region 6 with fail
  change Code.wp _ _ _ _ (w4.setCell ⟨g6, 31, none⟩ (B8 x))
  generalize w4.setCell ⟨g6, 31, none⟩ (B8 x) = w5 at M2 ⊢
  clear c1 f1 x8 w4
  have x7 := X7.out
  have s6 := S6.out
  have b0 : ∀ W, Below w5.drew.heap.size w5.drew W → W.cell? ⟨g5, 0, none⟩ = some (B8 (c.getD 0 0)) := fun W h => ((M2.drew.step h).row 2 rfl).byte 0 (by rw [HC.out]; omega)
  have b31 : ∀ W, Below w5.drew.heap.size w5.drew W → W.cell? ⟨g5, 31, none⟩ = some (B8 (c.getD 31 0)) := fun W h => ((M2.drew.step h).row 2 rfl).byte 31 (by rw [HC.out]; omega)
  generalize c.getD 0 0 = y0 at x7 b0
  generalize c.getD 31 0 = y31 at s6 b31
  refine wp_region_noPanic ?_
  refine wp_region_flow (fin := ?fin1) 35 0 (by kernel_rfl) [.inl (.agg (bs c)),
    .inl (.agg (bs u)),
    .inl (.agg (bs R)),
    .inl (.agg (bs a)),
    .inl (.agg (bs u)),
    .inl (.agg (bs R)),
    .inl (.bool true),
    .inl (.bool true),
    .inl (.agg (bs c)),
    .inl (.agg (bs c)),
    .inl (.agg (bs c)),
    .inl (.bool true),
    .inl (.bool true),
    .inl (.bool true),
    .inl (.agg (bs a)),
    .inl (.agg (bs v)),
    .inl (.agg (bs R)),
    .inl (.agg (bs a)),
    .inl (.agg (bs u)),
    .inl (.agg (bs R)),
    .inl (.bool true),
    .inl (.bool true),
    .inl (.bool true),
    .inl (.pointer (some ⟨g5, 0, none⟩)),
    .inl (B8 y0),
    .inl (.int .u8 0),
    .inl (.bool true),
    .inl (.bool true),
    .inl (.bool true),
    .inl (.pointer (some ⟨g5, 31, none⟩)),
    .inl (B8 y31),
    .inl (.int .u8 1),
    .inl (.bool true),
    .inl (.bool true),
    .inl (.bool true)] rfl rfl (by kernel_rfl) ?hfin1 ?hE1 ?hend1
  case hfin1 =>
    intro G
    simp only [flowAll, flowVal, Act.put, List.setIfInBounds_toArray, List.set_cons_zero, List.set_cons_succ]
    exact rfl
  case hE1 =>
    intro G
    refine ⟨Or.inr (fun W hB => known_val rfl (by exact load_key (.tmp 5) _ c HC.out ((M2.drew.step hB).row 2 rfl) rfl rfl)),
      Or.inr (fun W hB => known_val rfl (by exact load_key (.tmp 3) _ u HU.out ((M2.drew.step hB).row 1 rfl) rfl rfl)),
      Or.inr (fun W hB => known_call 11 #[.agg (bs c), .agg (bs u)] (P1.out W) rfl (by go_simp)),
      Or.inr (fun W hB => known_val rfl (by exact load_key (.tmp 2) _ a HA.out ((M2.drew.step hB).row 0 rfl) rfl rfl)),
      Or.inr (fun W hB => known_val rfl (by exact load_key (.tmp 3) _ u HU.out ((M2.drew.step hB).row 1 rfl) rfl rfl)),
      Or.inr (fun W hB => known_call 11 #[.agg (bs a), .agg (bs u)] (P2.out W) rfl (by go_simp)),
      Or.inr (fun W hB => known_val rfl (by exact exec_sames (.tmp 18) (.tmp 21) R HR.out rfl rfl rfl)),
      Or.inr (fun W hB => known_val rfl (by go_simp)),
      Or.inr (fun W hB => known_val rfl (by exact load_key (.tmp 5) _ c HC.out ((M2.drew.step hB).row 2 rfl) rfl rfl)),
      Or.inr (fun W hB => known_call 13 #[.agg (bs c)] (P3.out W) rfl (by go_simp)),
      Or.inr (fun W hB => known_val rfl (by exact load_key (.tmp 5) _ c HC.out ((M2.drew.step hB).row 2 rfl) rfl rfl)),
      Or.inr (fun W hB => known_val rfl (by exact exec_sames (.tmp 25) (.tmp 26) c HC.out rfl rfl rfl)),
      Or.inr (fun W hB => known_val rfl (by go_simp)),
      Or.inr (fun W hB => known_val rfl (by go_simp)),
      Or.inr (fun W hB => known_val rfl (by exact load_key (.tmp 2) _ a HA.out ((M2.drew.step hB).row 0 rfl) rfl rfl)),
      Or.inr (fun W hB => known_val rfl (by exact load_key (.tmp 6) _ v HV.out ((M2.drew.step hB).row 3 rfl) rfl rfl)),
      Or.inr (fun W hB => known_call 11 #[.agg (bs a), .agg (bs v)] (P4.out W) rfl (by go_simp)),
      Or.inr (fun W hB => known_val rfl (by exact load_key (.tmp 2) _ a HA.out ((M2.drew.step hB).row 0 rfl) rfl rfl)),
      Or.inr (fun W hB => known_val rfl (by exact load_key (.tmp 3) _ u HU.out ((M2.drew.step hB).row 1 rfl) rfl rfl)),
      Or.inr (fun W hB => known_call 11 #[.agg (bs a), .agg (bs u)] (P2.out W) rfl (by go_simp)),
      Or.inr (fun W hB => known_val rfl (by exact exec_sames (.tmp 32) (.tmp 35) R HR.out rfl rfl rfl)),
      Or.inr (fun W hB => known_val rfl (by go_simp)),
      Or.inr (fun W hB => known_val rfl (by go_simp)),
      Or.inr (fun W hB => known_val rfl (by go_simp)),
      Or.inr (fun W hB => known_val rfl (by have := b0 W hB; go_simp)),
      Or.inr (fun W hB => known_val rfl (by go_simp)),
      Or.inr (fun W hB => known_val rfl (by go_simp)),
      Or.inr (fun W hB => known_val rfl (by go_simp)),
      Or.inr (fun W hB => known_val rfl (by go_simp)),
      Or.inr (fun W hB => known_val rfl (by go_simp)),
      Or.inr (fun W hB => known_val rfl (by have := b31 W hB; go_simp)),
      Or.inr (fun W hB => known_val rfl (by go_simp)),
      Or.inr (fun W hB => known_val rfl (by go_simp)),
      Or.inr (fun W hB => known_val rfl (by go_simp)),
      Or.inr (fun W hB => known_val rfl (by go_simp)), trivial⟩
  intro G W hB hM
  replace M2 := M2.drew.step hB
  clear hM hB G
  refine wpAny_end (by kernel_rfl) ?_ _
  refine NoPanic.normal ?_
  go_wp2
  go_ret
  exact ⟨rfl, M2.below⟩
end Go.Proofs.Ytdikkdediofieaa
