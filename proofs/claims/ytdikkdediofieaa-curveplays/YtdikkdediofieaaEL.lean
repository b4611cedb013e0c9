/- curve.ladder: walked. -/
import Derived.Test.YtdikkdediofieaaEK
namespace Go.Proofs.Ytdikkdediofieaa
open Go.RowKit
/-- the points change places -/
def swapT (b : Nat) (s : Two) : Two := if b = 1 then ⟨s.w, s.t, s.x, s.z⟩ else s
/-- k rounds of the ladder -/
def ladF (bit : Nat → Nat) (u : Nat) : Nat → Two → Two
  | 0, s => s
  | k + 1, s => ladF bit u k (swapT (bit k) (stepT u (swapT (bit k) s)))
/-- a bit of bytes, the lowest first -/
def bitB (l : List UInt8) (k : Nat) : Nat := (l.getD (k / 8) 0).toNat / 2 ^ (k % 8) % 2
theorem bitB_le (l : List UInt8) (k : Nat) : bitB l k ≤ 1 := by unfold bitB; omega
theorem bit_walk (l : List UInt8) (j : Nat) (b : UInt8) (hb : b = l.getD (j / 8) 0) : bits .and .u64 (IntKind.u64.wrap ((b.toNat : Int) / 2 ^ (j % 8))) 1 = ((bitB l j : Nat) : Int) := by
  have e : (b.toNat : Int) / 2 ^ (j % 8) = ((b.toNat / 2 ^ (j % 8) : Nat) : Int) := by simp
  have hl : b.toNat / 2 ^ (j % 8) < 18446744073709551616 := Nat.lt_of_le_of_lt (Nat.div_le_self _ _) (by have := b.toNat_lt; omega)
  have h := u64_and_nat (b.toNat / 2 ^ (j % 8)) 1 hl (by omega)
  rw [Nat.and_one_is_mod] at h
  rw [e, wrapN _ hl]
  unfold bitB
  rw [← hb]
  exact h
theorem swapT_ok {b : Nat} {s : Two} (h : s.Ok) : (swapT b s).Ok := by unfold swapT; split; exact ⟨h.2.2.1, h.2.2.2, h.1, h.2.1⟩; exact h
theorem sel_pt (b : Nat) (s : Two) : sel b (ptL s.x s.z) (ptL s.w s.t) = ptL (swapT b s).x (swapT b s).z ∧ sel b (ptL s.w s.t) (ptL s.x s.z) = ptL (swapT b s).w (swapT b s).t := by
  unfold sel swapT; split <;> exact ⟨rfl, rfl⟩
theorem swapped_pt (b : Nat) (hb : b ≤ 1) (s : Two) (w : World) :
    Calls Try.prog 29 #[.agg (pt s.x s.z), .agg (pt s.w s.t), U64 b] w fun e w' => e = .returned (.tuple #[.agg (pt (swapT b s).x (swapT b s).z), .agg (pt (swapT b s).w (swapT b s).t)]) ∧ Below w.heap.size w w' := by
  have h := swapped_any (ptL s.x s.z) (ptL s.w s.t) (ptL_length _ _) (ptL_length _ _) (ptL_dig _ _) (ptL_dig _ _) b hb w
  rw [(sel_pt b s).1, (sel_pt b s).2] at h
  exact h
set_option maxHeartbeats 2000000 in
theorem ladder_any (K : List UInt8) (hK : K.length = 32) (U : Nat) (hU : U < 57896044618658097711785492504343953926634992332820282019728792003956564819949) (w : World) :
    Calls Try.prog 21 #[.agg (bs K), .agg (el U)] w fun e w' => e = .returned (.agg (pt (ladF (bitB K) U 255 ⟨1, 0, U, 1⟩).x (ladF (bitB K) U 255 ⟨1, 0, U, 1⟩).z)) ∧ Below w.heap.size w w' := by
  have M0 : Mem w [(w.heap.size, 23, bs K), (w.heap.size + 1, 39, el U), (w.heap.size + 1 + 1, 41, z8w)] (((w.alloc (.cells (bs K) 23)).alloc (.cells (el U) 39)).alloc (.cells z8w 41)) :=
    (((Mem.init w).alloc _ rfl _ _).alloc _ (by simp) _ _).alloc _ (by simp) _ _
  obtain ⟨R, hR⟩ : ∃ R, R = ladF (bitB K) U 255 ⟨1, 0, U, 1⟩ := ⟨_, rfl⟩
  rw [← hR]
  have hr0 : ladF (bitB K) U 255 ⟨1, 0, U, 1⟩ = R := hR.symm
  have HR := Lib.hid hr0
  have HK := Lib.hid hK
  clear hR hr0 hK
  go_enter Try.func21, Try.ntmps21
  go_upto_region 1 with fail
  change Code.wp _ _ _ _ (((w.alloc (.cells (bs K) 23)).alloc (.cells (el U) 39)).alloc (.cells z8w 41))
  generalize ((w.alloc (.cells (bs K) 23)).alloc (.cells (el U) 39)).alloc (.cells z8w 41) = w0 at M0 ⊢
  refine wp_region_noPanic ?_
  refine wp_region_held_drew (S := fun Y => Has Y (w.heap.size + 1) 39 (el U)) (by kernel_rfl) (M0.drew.row 1 rfl) (fun hS => ?_)
  refine take1 hS 0 9 (.agg (el 1)) _ rfl (by kernel_rfl) (by kernel_rfl) (by kernel_rfl) (fun _ _ _ h => h) rfl rfl (fun Y h => by rw [el_one]; go_simp) ?_
  simp only [Act.put, List.setIfInBounds_toArray, List.set_cons_zero, List.set_cons_succ]
  refine take1 hS 1 10 (.agg (el 0)) _ rfl (by kernel_rfl) (by kernel_rfl) (by kernel_rfl) (fun _ _ _ h => h) rfl rfl (fun Y h => by rw [el_nought]; go_simp) ?_
  simp only [Act.put, List.setIfInBounds_toArray, List.set_cons_zero, List.set_cons_succ]
  refine take1 hS 2 11 (.agg (pt 1 0)) _ rfl (by kernel_rfl) (by kernel_rfl) (by kernel_rfl) (fun _ _ _ h => h) rfl rfl (fun Y h => build_pt 1 0 (.tmp 9) (.tmp 10) rfl rfl rfl) ?_
  simp only [Act.put, List.setIfInBounds_toArray, List.set_cons_zero, List.set_cons_succ]
  refine take1 hS 3 12 (.agg (el U)) _ rfl (by kernel_rfl) (by kernel_rfl) (by kernel_rfl) (fun _ _ _ h => h) rfl rfl (fun Y h => load_el (.tmp 3) _ U h rfl rfl) ?_
  simp only [Act.put, List.setIfInBounds_toArray, List.set_cons_zero, List.set_cons_succ]
  refine take1 hS 4 13 (.agg (el 1)) _ rfl (by kernel_rfl) (by kernel_rfl) (by kernel_rfl) (fun _ _ _ h => h) rfl rfl (fun Y h => by rw [el_one]; go_simp) ?_
  simp only [Act.put, List.setIfInBounds_toArray, List.set_cons_zero, List.set_cons_succ]
  refine take1 hS 5 14 (.agg (pt U 1)) _ rfl (by kernel_rfl) (by kernel_rfl) (by kernel_rfl) (fun _ _ _ h => h) rfl rfl (fun Y h => build_pt U 1 (.tmp 12) (.tmp 13) rfl rfl rfl) ?_
  simp only [Act.put, List.setIfInBounds_toArray, List.set_cons_zero, List.set_cons_succ]
  clear hS
  refine wpAnyH_flow_pre (fin := ?fin1) 8 2 [0,1,2,3,4,5] [.inl (.agg (el 1)),
    .inl (.agg (el 0)),
    .inl (.agg (pt 1 0)),
    .inl (.agg (el U)),
    .inl (.agg (el 1)),
    .inl (.agg (pt U 1)),
    .inr (41, z8w),
    .inr (41, z8w)] rfl rfl (by kernel_rfl) rfl (by kernel_rfl) (by kernel_rfl) rfl (fun Y hb => (M0.drew.step hb).row 1 rfl) ?hfin1 ?hE1 ?hend1
  case hfin1 =>
    intro G
    simp only [flowAll, flowVal, Act.put, List.setIfInBounds_toArray, List.set_cons_zero, List.set_cons_succ]
    exact rfl
  case hE1 =>
    intro G
    refine ⟨Or.inl rfl,
      Or.inl rfl,
      Or.inl rfl,
      Or.inl rfl,
      Or.inl rfl,
      Or.inl rfl,
      ⟨rfl, fun W => alloc_pt rfl⟩,
      ⟨rfl, fun W => alloc_pt rfl⟩, trivial⟩
  intro G W hB hM
  replace M0 := M0.drew.made2 hB hM 6 7 (by decide) rfl rfl rfl rfl
  simp only [List.cons_append, List.nil_append] at M0
  generalize G 6 = ga at M0 ⊢
  generalize G 7 = gb at M0 ⊢
  clear hM hB G w0
  have M1 := M0.store 3 rfl (pt 1 0)
  simp only [List.set_cons_zero, List.set_cons_succ] at M1
  refine onlySkip 8 (W.setRow ga (pt 1 0)) _ (by kernel_rfl) rfl rfl rfl (store_pt (.tmp 5) (.tmp 11) ga 1 0 (M0.row 3 rfl) (pt_z8 1 0) rfl rfl rfl) (M1.row 1 rfl) ?_
  clear M0
  generalize W.setRow ga (pt 1 0) = W1 at M1 ⊢
  simp only [Act.put]
  have M2 := M1.store 4 rfl (pt U 1)
  simp only [List.set_cons_zero, List.set_cons_succ] at M2
  refine onlySkip 9 (W1.setRow gb (pt U 1)) _ (by kernel_rfl) rfl rfl rfl (store_pt (.tmp 6) (.tmp 14) gb U 1 (M1.row 4 rfl) (pt_z8 U 1) rfl rfl rfl) (M2.row 1 rfl) ?_
  clear M1
  generalize W1.setRow gb (pt U 1) = W2 at M2 ⊢
  simp only [Act.put]
  refine wpAnyH_done (by kernel_rfl) ?_ _
  refine NoPanic.normal ?_
  clear W W1
  go_wp2
  go_loopw [7] (fun i wr => ∃ (k : Nat) (s : Two), k ≤ 255 ∧ i = .int .i64 ((k : Int) - 1) ∧ s.Ok ∧ ladF (bitB K) U k s = R ∧ Mem w [(w.heap.size, 23, bs K), (w.heap.size + 1, 39, el U), (w.heap.size + 1 + 1, 41, z8w), (ga, 41, pt s.x s.z), (gb, 41, pt s.w s.t)] wr) (fun i _ => (intOf i + 1).toNat)
  case atStart => exact ⟨255, ⟨1, 0, U, 1⟩, by omega, rfl, ⟨by show 1 < _; omega, by show 0 < _; omega, hU, by show 1 < _; omega⟩, HR.out, M2⟩
  case round =>
    clear M2 W2
    obtain ⟨k, s, hk, rfl, hs, hr, M⟩ := hrel
    cases k with
    | zero =>
      obtain rfl : s = R := hr
      have hb : decide ((0 : Int) ≤ ((0 : Nat) : Int) - 1) = false := by decide
      have r3 := M.row 3 rfl
      have r2 := M.row 2 rfl
      go_wp2_with (first
        | (refine wpList_load_row rfl 41 (.tmp 5) rfl ga rfl 41 (pt s.x s.z) (0, 0) _ r3 Try.underlying41 rfl (pt_info _ _) ?_)
        | (refine wpList_store_row rfl 41 (.tmp 4) (.tmp 49) rfl (w.heap.size + 1 + 1) (pt s.x s.z) rfl rfl 41 z8w r2 (pt_info _ _) (pt_z8 _ _) (us_one _) ?_))
      replace M := M.store 2 rfl (pt s.x s.z)
      simp only [List.set_cons_zero, List.set_cons_succ] at M
      exact bodyPost_ret (v := .agg (pt s.x s.z)) (results_cell_row rfl _ _ (w.heap.size + 1 + 1) 41 (pt s.x s.z) (0, 0) _ rfl (M.row 2 rfl) Try.underlying41 rfl (pt_info _ _)) rfl ⟨rfl, M.below⟩
    | succ j =>
      have e1 : ((j + 1 : Nat) : Int) - 1 = (j : Int) := by omega
      rw [e1]
      clear e1
      have hb : decide ((0 : Int) ≤ (j : Int)) = true := by simp
      obtain ⟨b, hb8⟩ : ∃ b, b = K.getD (j / 8) 0 := ⟨_, rfl⟩
      have c1 := (M.row 0 rfl).byte (j / 8) (by rw [HK.out]; omega)
      rw [← hb8] at c1
      have hbit := bit_walk K j b hb8
      have j32 : j / 8 < 32 := by omega
      have hv : ladF (bitB K) U j (swapT (bitB K j) (stepT U (swapT (bitB K j) s))) = R := hr
      have hle := bitB_le K j
      generalize bitB K j = q at hbit hv hle
      have s1 := swapped_pt q hle s
      have o1 := swapT_ok (b := q) hs
      generalize swapT q s = s' at s1 hv o1
      have s2 := step_any s'.x s'.z s'.w s'.t U o1.1 o1.2.1 o1.2.2.1 o1.2.2.2 hU
      have o2 := stepT_ok U s'
      change ∀ w, Calls _ _ _ w (fun e w' => e = .returned (.tuple #[.agg (pt (stepT U s').x (stepT U s').z), .agg (pt (stepT U s').w (stepT U s').t)]) ∧ Below w.heap.size w w') at s2
      generalize stepT U s' = s'' at s2 hv o2
      have s3 := swapped_pt q hle s''
      have o3 := swapT_ok (b := q) o2
      generalize swapT q s'' = s3' at s3 hv o3
      have S1 := Lib.hid s1
      have S2 := Lib.hid s2
      have S3 := Lib.hid s3
      have HV := Lib.hid hv
      clear s1 s2 s3 hv hr hb8 o1 o2 hs hle
      go_upto_region 6 with fail
      clear c1 hbit j32
      have ra := M.row 3 rfl
      have rb := M.row 4 rfl
      go_wp2_with (first
        | (refine wpList_load_row rfl 41 (.tmp 5) rfl ga rfl 41 (pt s.x s.z) (0, 0) _ ra Try.underlying41 rfl (pt_info _ _) ?_)
        | (refine wpList_load_row rfl 41 (.tmp 6) rfl gb rfl 41 (pt s.w s.t) (0, 0) _ rb Try.underlying41 rfl (pt_info _ _) ?_))
      go_at_call 29
      refine (S1.out _).mono ?_
      rintro e V6 ⟨rfl, hb1⟩
      clear ra rb S1
      replace M := M.step hb1
      clear hb1 wr
      have ra := M.row 3 rfl
      have rb := (M.store 3 rfl (pt s'.x s'.z)).row 4 rfl
      go_upto_region 7 with (first
        | (refine wpList_store_row rfl 41 (.tmp 5) (.tmp 33) rfl ga (pt s'.x s'.z) rfl rfl 41 (pt s.x s.z) ra (pt_info _ _) (pt_size _ _ _ _) (us_one _) ?_)
        | (refine wpList_store_row rfl 41 (.tmp 6) (.tmp 34) rfl gb (pt s'.w s'.t) rfl rfl 41 (pt s.w s.t) rb (pt_info _ _) (pt_size _ _ _ _) (us_one _) ?_))
      clear ra rb
      replace M := (M.store 3 rfl (pt s'.x s'.z)).store 4 rfl (pt s'.w s'.t)
      simp only [List.set_cons_zero, List.set_cons_succ] at M
      change Code.wp _ _ _ _ ((V6.setRow ga (pt s'.x s'.z)).setRow gb (pt s'.w s'.t))
      generalize (V6.setRow ga (pt s'.x s'.z)).setRow gb (pt s'.w s'.t) = U6 at M ⊢
      clear V6
      have ra := M.row 3 rfl
      have rb := M.row 4 rfl
      have ru := M.row 1 rfl
      go_wp2_with (first
        | (refine wpList_load_row rfl 41 (.tmp 5) rfl ga rfl 41 (pt s'.x s'.z) (0, 0) _ ra Try.underlying41 rfl (pt_info _ _) ?_)
        | (refine wpList_load_row rfl 41 (.tmp 6) rfl gb rfl 41 (pt s'.w s'.t) (0, 0) _ rb Try.underlying41 rfl (pt_info _ _) ?_)
        | (refine wpList_load_row rfl 39 (.tmp 3) rfl (w.heap.size + 1) rfl 39 (el U) (0, 0) _ ru Try.underlying39 rfl (el_info U) ?_))
      go_at_call 30
      refine (S2.out _).mono ?_
      rintro e V7 ⟨rfl, hb1⟩
      clear ra rb S2 ru
      replace M := M.step hb1
      clear hb1 U6
      have ra := M.row 3 rfl
      have rb := (M.store 3 rfl (pt s''.x s''.z)).row 4 rfl
      go_upto_region 8 with (first
        | (refine wpList_store_row rfl 41 (.tmp 5) (.tmp 40) rfl ga (pt s''.x s''.z) rfl rfl 41 (pt s'.x s'.z) ra (pt_info _ _) (pt_size _ _ _ _) (us_one _) ?_)
        | (refine wpList_store_row rfl 41 (.tmp 6) (.tmp 41) rfl gb (pt s''.w s''.t) rfl rfl 41 (pt s'.w s'.t) rb (pt_info _ _) (pt_size _ _ _ _) (us_one _) ?_))
      clear ra rb
      replace M := (M.store 3 rfl (pt s''.x s''.z)).store 4 rfl (pt s''.w s''.t)
      simp only [List.set_cons_zero, List.set_cons_succ] at M
      change Code.wp _ _ _ _ ((V7.setRow ga (pt s''.x s''.z)).setRow gb (pt s''.w s''.t))
      generalize (V7.setRow ga (pt s''.x s''.z)).setRow gb (pt s''.w s''.t) = U7 at M ⊢
      clear V7
      have ra := M.row 3 rfl
      have rb := M.row 4 rfl
      go_wp2_with (first
        | (refine wpList_load_row rfl 41 (.tmp 5) rfl ga rfl 41 (pt s''.x s''.z) (0, 0) _ ra Try.underlying41 rfl (pt_info _ _) ?_)
        | (refine wpList_load_row rfl 41 (.tmp 6) rfl gb rfl 41 (pt s''.w s''.t) (0, 0) _ rb Try.underlying41 rfl (pt_info _ _) ?_))
      go_at_call 29
      refine (S3.out _).mono ?_
      rintro e V8 ⟨rfl, hb1⟩
      clear ra rb S3
      replace M := M.step hb1
      clear hb1 U7
      have ra := M.row 3 rfl
      have rb := (M.store 3 rfl (pt s3'.x s3'.z)).row 4 rfl
      go_upto_region 4 with (first
        | (refine wpList_store_row rfl 41 (.tmp 5) (.tmp 47) rfl ga (pt s3'.x s3'.z) rfl rfl 41 (pt s''.x s''.z) ra (pt_info _ _) (pt_size _ _ _ _) (us_one _) ?_)
        | (refine wpList_store_row rfl 41 (.tmp 6) (.tmp 48) rfl gb (pt s3'.w s3'.t) rfl rfl 41 (pt s''.w s''.t) rb (pt_info _ _) (pt_size _ _ _ _) (us_one _) ?_))
      clear ra rb
      replace M := (M.store 3 rfl (pt s3'.x s3'.z)).store 4 rfl (pt s3'.w s3'.t)
      simp only [List.set_cons_zero, List.set_cons_succ] at M
      change Code.wp _ _ _ _ ((V8.setRow ga (pt s3'.x s3'.z)).setRow gb (pt s3'.w s3'.t))
      generalize (V8.setRow ga (pt s3'.x s3'.z)).setRow gb (pt s3'.w s3'.t) = U8 at M ⊢
      clear V8
      go_wp2
      go_roundw
      case rel => exact ⟨j, s3', by omega, rfl, o3, HV.out, M⟩
      case measure => simp [intOf]
end Go.Proofs.Ytdikkdediofieaa
