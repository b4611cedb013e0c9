/- causeyref06.Shared: walked. -/
import Derived.Test.YtdikkdediofieaaGF
import Derived.Test.YtdikkdediofieaaHW
namespace Go.Proofs.Ytdikkdediofieaa
open Go.RowKit
section
variable {o : Oper} {ev : Operand → Value} {w : World}
theorem load_k8 (x : Operand) (g : Nat) (l : List UInt8) (hl : l.length = 32) (h : Has w g 22 (bs l)) (ho : o.op = .load 22 x) (he : ev x = .pointer (some ⟨g, 0, none⟩)) : (execOp ev o).run Try.prog w = .ok (.value (.agg (bs l))) w :=
  exec_load_row (P := Try.prog) 22 x g h Try.underlying22 rfl (k8info l hl) ho he
theorem store_k8 (x y : Operand) (g : Nat) (l : List UInt8) (hl : l.length = 32) {old : Array Value} (h : Has w g 22 old) (hs : old.size = (bs l).size) (ho : o.op = .store 22 x y) (hx : ev x = .pointer (some ⟨g, 0, none⟩)) (hy : ev y = .agg (bs l)) :
    (execOp ev o).run Try.prog w = .ok .skip (w.setRow g (bs l)) := exec_store_row (P := Try.prog) (w := w) 22 x y g (bs l) h (k8info l hl) hs (bs_one _) ho hx hy
theorem alloc_k8 (ho : o.op = .alloc 22) : (execOp ev o).run Try.prog w = .ok (.value (.pointer (some ⟨w.heap.size, 0, none⟩))) (w.alloc (.cells kz8 22)) := by
  unfold execOp
  simp only [ho]
  go_simp
  rfl
end
theorem clamp_low (a : UInt8) : (a &&& 248).toNat = a.toNat / 8 * 8 := by
  rw [UInt8.toNat_and]
  have h : ∀ b : Fin 256, b.val &&& 248 = b.val / 8 * 8 := by decide +kernel
  exact h ⟨a.toNat, a.toNat_lt⟩
theorem clamp_top (a : UInt8) : ((a &&& 127) ||| 64).toNat = a.toNat % 64 + 64 := by
  rw [UInt8.toNat_or, UInt8.toNat_and]
  have h : ∀ b : Fin 256, (b.val &&& 127) ||| 64 = b.val % 64 + 64 := by decide +kernel
  exact h ⟨a.toNat, a.toNat_lt⟩
theorem swapT_one (s : Two) : swapT 1 s = ⟨s.w, s.t, s.x, s.z⟩ := rfl
theorem swapT_none (s : Two) : swapT 0 s = s := rfl
/-- a function of two elements -/
def CallD (fn : Nat) (a b c : Nat) : Prop := ∀ w, Calls Try.prog fn #[.agg (de a), .agg (de b)] w fun e w' => e = .returned (.agg (de c)) ∧ Below w.heap.size w w'
theorem step_calls (u : Nat) (hu : u < 57896044618658097711785492504343953926634992332820282019728792003956564819949) (s : Two) (hs : s.Ok) (s2 : Two) (h2 : s2 = stepT u s) : ∃ e f g h i j1 j k1 k p q r y1 y2 : Nat,
    CallD 27 s.x s.z e ∧ CallD 18 e e f ∧ CallD 28 s.x s.z g ∧ CallD 18 g g h ∧ CallD 28 f h i ∧ CallD 28 s.w s.t j1 ∧ CallD 18 j1 e j ∧ CallD 27 s.w s.t k1 ∧ CallD 18 k1 g k ∧
    CallD 27 j k p ∧ CallD 18 p p s2.w ∧ CallD 28 j k q ∧ CallD 18 q q r ∧ CallD 18 u r s2.t ∧ CallD 18 f h s2.x ∧ CallD 18 121665 i y1 ∧ CallD 27 f y1 y2 ∧ CallD 18 i y2 s2.z := by
  obtain ⟨hx, hz, hw, ht⟩ := hs
  subst h2
  exact ⟨fadd s.x s.z, _, fsub s.x s.z, _, _, fsub s.w s.t, _, fadd s.w s.t, _, _, _, _, _, _,
    cplus_any _ _ hx hz, ctimes_any _ _ (fadd_lt _ _) (fadd_lt _ _), cless_any _ _ hx hz, ctimes_any _ _ (fsub_lt _ _) (fsub_lt _ _), cless_any _ _ (fmul_lt _ _) (fmul_lt _ _),
    cless_any _ _ hw ht, ctimes_any _ _ (fsub_lt _ _) (fadd_lt _ _), cplus_any _ _ hw ht, ctimes_any _ _ (fadd_lt _ _) (fsub_lt _ _),
    cplus_any _ _ (fmul_lt _ _) (fmul_lt _ _), ctimes_any _ _ (fadd_lt _ _) (fadd_lt _ _), cless_any _ _ (fmul_lt _ _) (fmul_lt _ _), ctimes_any _ _ (fsub_lt _ _) (fsub_lt _ _), ctimes_any _ _ hu (fmul_lt _ _),
    ctimes_any _ _ (fmul_lt _ _) (fmul_lt _ _), ctimes_any _ _ (by omega) (fsub_lt _ _), cplus_any _ _ (fmul_lt _ _) (fmul_lt _ _), ctimes_any _ _ (fsub_lt _ _) (fadd_lt _ _)⟩
theorem halves (n m : Nat) : n / 2 ^ m / 2 = n / 2 ^ (m + 1) := by rw [Nat.pow_succ, Nat.div_div_eq_div_mul]
set_option maxRecDepth 20000 in
set_option maxHeartbeats 8000000 in
theorem cshared_any (A U : List UInt8) (hA : A.length = 32) (hU : U.length = 32) (w : World) :
    Calls Try.prog 20 #[.agg (bs A), .agg (bs U)] w fun e w' => e = .returned (.agg (bs (sharedK A U))) ∧ Below w.heap.size w w' := by
  have M : Mem w [(w.heap.size, 22, bs A), (w.heap.size + 1, 22, bs U), (w.heap.size + 1 + 1, 22, kz8)] (((w.alloc (.cells (bs A) 22)).alloc (.cells (bs U) 22)).alloc (.cells kz8 22)) :=
    (((Mem.init w).alloc _ rfl _ _).alloc _ (by simp) _ _).alloc _ (by simp) _ _
  have p2 := cplace_any U hU
  have hu := placeN_lt U
  have lR : (sharedK A U).length = 32 := lowB_length _ _
  have hR : sharedK A U = lowB (fmul (ladF (bitB (kclamp A)) (placeN U) 255 ⟨1, 0, placeN U, 1⟩).x (finv (ladF (bitB (kclamp A)) (placeN U) 255 ⟨1, 0, placeN U, 1⟩).z)) 32 := rfl
  have lC : (kclamp A).length = 32 := (kclamp_length A).trans hA
  generalize sharedK A U = R at *
  generalize placeN U = u at *
  have x1 := clamp_low (A.getD 0 0)
  have x2 := clamp_top (A.getD 31 0)
  have d31 : (A.set 0 (A.getD 0 0 &&& 248)).getD 31 0 = A.getD 31 0 := getD_set_ne8 _ _ _ _ (by omega)
  have hC : (A.set 0 (A.getD 0 0 &&& 248)).set 31 ((A.getD 31 0 &&& 127) ||| 64) = kclamp A := rfl
  generalize kclamp A = C at *
  generalize A.getD 0 0 &&& 248 = b0 at *
  generalize (A.getD 31 0 &&& 127) ||| 64 = b2 at *
  have l1 : (A.set 0 b0).length = 32 := by rw [List.length_set, hA]
  have X1 := Lib.hid (And.intro x1 x2)
  have HA := Lib.hid hA
  have HU := Lib.hid hU
  have P2 := Lib.hid p2
  have HUU := Lib.hid hu
  have HR := Lib.hid (And.intro hR lR)
  have HC := Lib.hid (And.intro hC lC)
  have H1 := Lib.hid (And.intro l1 d31)
  clear hA hU p2 hu hR lR hC lC l1 d31 x1 x2
  go_enter Try.func20, Try.ntmps20
  go_upto_region 1 with fail
  change Code.wp _ _ _ _ (((w.alloc (.cells (bs A) 22)).alloc (.cells (bs U) 22)).alloc (.cells kz8 22))
  generalize ((w.alloc (.cells (bs A) 22)).alloc (.cells (bs U) 22)).alloc (.cells kz8 22) = w0 at M ⊢
  refine wp_region_noPanic ?_
  refine wp_region_flow_text (fin := ?fin1) 2 1 (by kernel_rfl) [.inl (.agg (bs A)),
    .inr (22, kz8)] rfl rfl (by kernel_rfl) ?hfin1 ?hE1 ?hend1
  case hfin1 =>
    intro G
    simp only [flowAll, flowVal, Act.put, List.setIfInBounds_toArray, List.set_cons_zero, List.set_cons_succ]
    exact rfl
  case hE1 =>
    intro G
    refine ⟨Or.inr (fun W hB => known_val rfl (by exact load_k8 (.tmp 2) _ A HA.out ((M.step hB).row 0 rfl) rfl rfl)),
      ⟨rfl, fun W => alloc_k8 rfl⟩, trivial⟩
  intro G W hB hM
  replace M := M.made hB hM 1 rfl rfl
  simp only [List.cons_append, List.nil_append] at M
  generalize G 1 = gn at M ⊢
  clear hB hM G w0
  refine only0 2 (W.setRow gn (bs A)) _ (by kernel_rfl) rfl rfl rfl (store_k8 (.tmp 5) (.tmp 22) gn A HA.out (M.row 3 rfl) (kz8_size A HA.out) rfl rfl rfl) ?_
  replace M := M.store 3 rfl (bs A)
  simp only [List.set_cons_zero, List.set_cons_succ] at M
  generalize W.setRow gn (bs A) = w1 at M ⊢
  simp only [Act.put]
  refine wpAny_end (by kernel_rfl) ?_ _
  refine NoPanic.normal ?_
  clear W
  have c1 := (M.row 3 rfl).byte 0 (by rw [HA.out]; omega)
  have f1 := (M.row 3 rfl).frozen 0
  have hb0 := b0.toNat_lt
  have hq : ((A.getD 0 0).toNat : Int).tdiv 8 = (((A.getD 0 0).toNat / 8 : Nat) : Int) := tdivI _ 8
  have hm : (((A.getD 0 0).toNat / 8 : Nat) : Int) * 8 = (b0.toNat : Int) := by have := X1.out.1; omega
  have hd : (A.getD 0 0).toNat / 8 < 32 := by have := (A.getD 0 0).toNat_lt; omega
  generalize (A.getD 0 0).toNat / 8 = d at hq hm hd
  generalize A.getD 0 0 = a0 at c1 hq
  go_upto_region 3 with fail
  change Code.wp _ _ _ _ (w1.setCell ⟨gn, 0, none⟩ (B8 b0))
  replace M := M.setCell 3 rfl 0 (B8 b0)
  simp only [List.set_cons_zero, List.set_cons_succ] at M
  rw [bs_set] at M
  generalize w1.setCell ⟨gn, 0, none⟩ (B8 b0) = w2 at M ⊢
  clear c1 f1 hq hm hd hb0 w1
  have c1 := (M.row 3 rfl).byte 31 (by rw [H1.out.1]; omega)
  have f1 := (M.row 3 rfl).frozen 31
  rw [H1.out.2] at c1
  have hb0 := b2.toNat_lt
  have hq : ((A.getD 31 0).toNat : Int).tmod 64 = (((A.getD 31 0).toNat % 64 : Nat) : Int) := tmodI _ 64
  have hm : (((A.getD 31 0).toNat % 64 : Nat) : Int) + 64 = (b2.toNat : Int) := by have := X1.out.2; omega
  have hd : (A.getD 31 0).toNat % 64 < 64 := Nat.mod_lt _ (by omega)
  generalize (A.getD 31 0).toNat % 64 = d at hq hm hd
  generalize A.getD 31 0 = a0 at c1 hq
  go_upto_region 4 with fail
  change Code.wp _ _ _ _ (w2.setCell ⟨gn, 31, none⟩ (B8 b2))
  replace M := M.setCell 3 rfl 31 (B8 b2)
  simp only [List.set_cons_zero, List.set_cons_succ] at M
  rw [bs_set, HC.out.1] at M
  generalize w2.setCell ⟨gn, 31, none⟩ (B8 b2) = w3 at M ⊢
  clear c1 f1 hq hm hd hb0 w2 H1 X1
  refine wp_region_noPanic ?_
  refine wp_region_flow_text (fin := ?fin2) 3 1 (by kernel_rfl) [.inl (.agg (bs U)),
    .inl (.agg (de u)),
    .inr (30, z32i)] rfl rfl (by kernel_rfl) ?hfin2 ?hE2 ?hend2
  case hfin2 =>
    intro G
    simp only [flowAll, flowVal, Act.put, List.setIfInBounds_toArray, List.set_cons_zero, List.set_cons_succ]
    exact rfl
  case hE2 =>
    intro G
    refine ⟨Or.inr (fun W hB => known_val rfl (by exact load_k8 (.tmp 3) _ U HU.out ((M.step hB).row 1 rfl) rfl rfl)),
      Or.inr (fun W hB => known_call 16 #[.agg (bs U)] (P2.out W) rfl (by go_simp)),
      ⟨rfl, fun W => alloc_de rfl⟩, trivial⟩
  intro G W hB hM
  replace M := M.made hB hM 2 rfl rfl
  simp only [List.cons_append, List.nil_append] at M
  generalize G 2 = gu at M ⊢
  clear hB hM G w3 P2
  refine only0 3 (W.setRow gu (de u)) _ (by kernel_rfl) rfl rfl rfl (store_de (.tmp 6) (.tmp 34) gu u (M.row 4 rfl) (de_z u) rfl rfl rfl) ?_
  replace M := M.store 4 rfl (de u)
  simp only [List.set_cons_zero, List.set_cons_succ] at M
  generalize W.setRow gu (de u) = w1 at M ⊢
  simp only [Act.put]
  refine wpAny_end (by kernel_rfl) ?_ _
  refine NoPanic.normal ?_
  clear W
  go_upto_region 5 with fail
  refine wp_region_noPanic ?_
  refine wp_region_flow_text (fin := ?fin3) 2 1 (by kernel_rfl) [.inl (.agg (de 1)),
    .inr (30, z32i)] rfl rfl (by kernel_rfl) ?hfin3 ?hE3 ?hend3
  case hfin3 =>
    intro G
    simp only [flowAll, flowVal, Act.put, List.setIfInBounds_toArray, List.set_cons_zero, List.set_cons_succ]
    exact rfl
  case hE3 =>
    intro G
    refine ⟨Or.inr (fun W hB => known_val rfl (by exact build_de _ 1 rfl (by kernel_rfl))),
      ⟨rfl, fun W => alloc_de rfl⟩, trivial⟩
  intro G W hB hM
  replace M := M.made hB hM 1 rfl rfl
  simp only [List.cons_append, List.nil_append] at M
  generalize G 1 = go1 at M ⊢
  clear hB hM G w1
  refine only0 2 (W.setRow go1 (de 1)) _ (by kernel_rfl) rfl rfl rfl (store_de (.tmp 7) (.tmp 35) go1 1 (M.row 5 rfl) (de_z 1) rfl rfl rfl) ?_
  replace M := M.store 5 rfl (de 1)
  simp only [List.set_cons_zero, List.set_cons_succ] at M
  generalize W.setRow go1 (de 1) = w1 at M ⊢
  simp only [Act.put]
  refine wpAny_end (by kernel_rfl) ?_ _
  refine NoPanic.normal ?_
  clear W
  go_upto_region 6 with fail
  refine wp_region_noPanic ?_
  refine wp_region_held_drew (S := fun Y => Has Y go1 30 (de 1) ∧ Has Y gu 30 (de u)) (by kernel_rfl) ⟨M.drew.row 5 rfl, M.drew.row 4 rfl⟩ (fun hS => ?_)
  refine take1 hS 0 36 (.agg (de 1)) _ rfl (by kernel_rfl) (by kernel_rfl) (by kernel_rfl) (fun _ _ _ h => h) rfl rfl (fun Y h => load_de (.tmp 7) _ 1 h.1 rfl rfl) ?_
  simp only [Act.put, List.setIfInBounds_toArray, List.set_cons_zero, List.set_cons_succ]
  refine take1 hS 1 37 (.agg (de 0)) _ rfl (by kernel_rfl) (by kernel_rfl) (by kernel_rfl) (fun _ _ _ h => h) rfl rfl (fun Y h => build_de _ 0 rfl (by kernel_rfl)) ?_
  simp only [Act.put, List.setIfInBounds_toArray, List.set_cons_zero, List.set_cons_succ]
  refine take1 hS 2 38 (.agg (de u)) _ rfl (by kernel_rfl) (by kernel_rfl) (by kernel_rfl) (fun _ _ _ h => h) rfl rfl (fun Y h => load_de (.tmp 6) _ u h.2 rfl rfl) ?_
  simp only [Act.put, List.setIfInBounds_toArray, List.set_cons_zero, List.set_cons_succ]
  refine take1 hS 3 39 (.agg (de 1)) _ rfl (by kernel_rfl) (by kernel_rfl) (by kernel_rfl) (fun _ _ _ h => h) rfl rfl (fun Y h => load_de (.tmp 7) _ 1 h.1 rfl rfl) ?_
  simp only [Act.put, List.setIfInBounds_toArray, List.set_cons_zero, List.set_cons_succ]
  clear hS
  refine wpAnyH_flow_pre (fin := ?fin4) 8 4 [0,1,2,3] [.inl (.agg (de 1)),
    .inl (.agg (de 0)),
    .inl (.agg (de u)),
    .inl (.agg (de 1)),
    .inr (30, z32i),
    .inr (30, z32i),
    .inr (30, z32i),
    .inr (30, z32i)] rfl rfl (by kernel_rfl) rfl (by kernel_rfl) (by kernel_rfl) rfl (fun Y hb => ⟨(M.drew.step hb).row 5 rfl, (M.drew.step hb).row 4 rfl⟩) ?hfin4 ?hE4 ?hend4
  case hfin4 =>
    intro G
    simp only [flowAll, flowVal, Act.put, List.setIfInBounds_toArray, List.set_cons_zero, List.set_cons_succ]
    exact rfl
  case hE4 =>
    intro G
    refine ⟨Or.inl rfl,
      Or.inl rfl,
      Or.inl rfl,
      Or.inl rfl,
      ⟨rfl, fun W => alloc_de rfl⟩,
      ⟨rfl, fun W => alloc_de rfl⟩,
      ⟨rfl, fun W => alloc_de rfl⟩,
      ⟨rfl, fun W => alloc_de rfl⟩, trivial⟩
  intro G W hB hM
  replace M := M.drew.mades hB hM [(4, 30, z32i), (5, 30, z32i), (6, 30, z32i), (7, 30, z32i)] (by intro x hx; simp only [List.mem_cons, List.not_mem_nil, or_false] at hx; rcases hx with rfl | rfl | rfl | rfl <;> exact ⟨rfl, rfl⟩) (by decide)
  simp only [List.cons_append, List.nil_append, List.map_cons, List.map_nil] at M
  generalize G 4 = gx at M ⊢
  generalize G 5 = gz at M ⊢
  generalize G 6 = gw at M ⊢
  generalize G 7 = gt at M ⊢
  clear hM hB G w1
  have M1 := M.store 6 rfl (de 1)
  simp only [List.set_cons_zero, List.set_cons_succ] at M1
  refine onlySkip 8 (W.setRow gx (de 1)) _ (by kernel_rfl) rfl rfl rfl (store_de (.tmp 8) (.tmp 36) gx 1 (M.row 6 rfl) (de_z _) rfl rfl rfl) ⟨M1.row 5 rfl, M1.row 4 rfl⟩ ?_
  clear M
  generalize W.setRow gx (de 1) = W1 at M1 ⊢
  simp only [Act.put]
  have M2 := M1.store 7 rfl (de 0)
  simp only [List.set_cons_zero, List.set_cons_succ] at M2
  refine onlySkip 9 (W1.setRow gz (de 0)) _ (by kernel_rfl) rfl rfl rfl (store_de (.tmp 9) (.tmp 37) gz 0 (M1.row 7 rfl) (de_z _) rfl rfl rfl) ⟨M2.row 5 rfl, M2.row 4 rfl⟩ ?_
  clear M1
  generalize W1.setRow gz (de 0) = W2 at M2 ⊢
  simp only [Act.put]
  have M3 := M2.store 8 rfl (de u)
  simp only [List.set_cons_zero, List.set_cons_succ] at M3
  refine onlySkip 10 (W2.setRow gw (de u)) _ (by kernel_rfl) rfl rfl rfl (store_de (.tmp 10) (.tmp 38) gw u (M2.row 8 rfl) (de_z _) rfl rfl rfl) ⟨M3.row 5 rfl, M3.row 4 rfl⟩ ?_
  clear M2
  generalize W2.setRow gw (de u) = W3 at M3 ⊢
  simp only [Act.put]
  have M4 := M3.store 9 rfl (de 1)
  simp only [List.set_cons_zero, List.set_cons_succ] at M4
  refine onlySkip 11 (W3.setRow gt (de 1)) _ (by kernel_rfl) rfl rfl rfl (store_de (.tmp 11) (.tmp 39) gt 1 (M3.row 9 rfl) (de_z _) rfl rfl rfl) ⟨M4.row 5 rfl, M4.row 4 rfl⟩ ?_
  clear M3
  generalize W3.setRow gt (de 1) = W4 at M4 ⊢
  simp only [Act.put]
  refine wpAnyH_done (by kernel_rfl) ?_ _
  refine NoPanic.normal ?_
  clear W W1 W2 W3
  have hr0 : ∃ f, f = ladF (bitB C) u 255 ⟨1, 0, u, 1⟩ := ⟨_, rfl⟩
  obtain ⟨f, hf⟩ := hr0
  have HF := Lib.hid hf.symm
  have hR := HR.out.1
  rw [← hf] at hR
  have HRR := Lib.hid hR
  clear hf hR
  go_wp2_with fail
  go_loopw [12] (fun i wr => ∃ (k : Nat) (s : Two), k ≤ 255 ∧ i = .int .i64 ((k : Int) - 1) ∧ s.Ok ∧ ladF (bitB C) u k s = f ∧ Mem w [(w.heap.size, 22, bs A), (w.heap.size + 1, 22, bs U), (w.heap.size + 1 + 1, 22, kz8), (gn, 22, bs C), (gu, 30, de u), (go1, 30, de 1), (gx, 30, de (s.x)), (gz, 30, de (s.z)), (gw, 30, de (s.w)), (gt, 30, de (s.t))] wr) (fun i _ => (intOf i + 1).toNat)
  case atStart => exact ⟨255, ⟨1, 0, u, 1⟩, by omega, rfl, start_ok u HUU.out, HF.out, M4⟩
  case round =>
    clear M4 W4 HF
    obtain ⟨k, s, hk, rfl, hs, hr, M⟩ := hrel
    cases k with
    | zero =>
      obtain rfl : s = f := hr
      have hb : decide ((0 : Int) ≤ ((0 : Nat) : Int) - 1) = false := by decide
      have p1 := cinv_any s.z hs.2.1
      have p2 := ctimes_any s.x (finv s.z) hs.1 (finv_lt _)
      have p3 := ckey_any (fmul s.x (finv s.z))
      rw [← HRR.out] at p3
      have lR := HR.out.2
      generalize fmul s.x (finv s.z) = m at p2 p3
      generalize finv s.z = z1 at p1 p2
      have P1 := Lib.hid p1
      have P2 := Lib.hid p2
      have P3 := Lib.hid p3
      clear p1 p2 p3 hs hk
      go_upto_region 30 with fail
      refine wp_region_noPanic ?_
      refine wp_region_flow (fin := ?fin5) 5 1 (by kernel_rfl) [.inl (.agg (de s.x)),
        .inl (.agg (de s.z)),
        .inl (.agg (de z1)),
        .inl (.agg (de m)),
        .inl (.agg (bs R))] rfl rfl (by kernel_rfl) ?hfin5 ?hE5 ?hend5
      case hfin5 =>
        intro G
        simp only [flowAll, flowVal, Act.put, List.setIfInBounds_toArray, List.set_cons_zero, List.set_cons_succ]
        exact rfl
      case hE5 =>
        intro G
        refine ⟨Or.inr (fun W hB => known_val rfl (by exact load_de (.tmp 8) _ s.x ((M.drew.step hB).row 6 rfl) rfl rfl)),
          Or.inr (fun W hB => known_val rfl (by exact load_de (.tmp 9) _ s.z ((M.drew.step hB).row 7 rfl) rfl rfl)),
          Or.inr (fun W hB => known_call 19 #[.agg (de s.z)] (P1.out W) rfl (by go_simp)),
          Or.inr (fun W hB => known_call 18 #[.agg (de s.x), .agg (de z1)] (P2.out W) rfl (by go_simp)),
          Or.inr (fun W hB => known_call 17 #[.agg (de m)] (P3.out W) rfl (by go_simp)), trivial⟩
      intro G W hB hM
      replace M := M.drew.step hB
      clear hB hM G
      refine only0 5 (W.setRow (w.heap.size + 1 + 1) (bs R)) _ (by kernel_rfl) rfl rfl rfl (store_k8 (.tmp 4) (.tmp 126) (w.heap.size + 1 + 1) R lR (M.row 2 rfl) (kz8_size R lR) rfl rfl rfl) ?_
      replace M := M.store 2 rfl (bs R)
      simp only [List.set_cons_zero, List.set_cons_succ] at M
      generalize W.setRow (w.heap.size + 1 + 1) (bs R) = W2 at M ⊢
      simp only [Act.put]
      refine wpAny_end (by kernel_rfl) ?_ _
      refine NoPanic.normal ?_
      go_wp2
      exact bodyPost_ret (v := .agg (bs R)) (results_cell_row rfl _ _ (w.heap.size + 1 + 1) 22 (bs R) (0, 0) _ rfl (M.row 2 rfl) Try.underlying22 rfl (k8info R lR)) rfl ⟨rfl, M.below⟩
    | succ j =>
      have e1 : ((j + 1 : Nat) : Int) - 1 = (j : Int) := by omega
      rw [e1]
      clear e1
      have hb : decide ((0 : Int) ≤ (j : Int)) = true := by simp
      obtain ⟨b, hb8⟩ : ∃ b, b = C.getD (j / 8) 0 := ⟨_, rfl⟩
      have c1 := (M.row 3 rfl).byte (j / 8) (by rw [HC.out.2]; omega)
      rw [← hb8] at c1
      have hbit : bitB C j = b.toNat / 2 ^ (j % 8) % 2 := by unfold bitB; rw [hb8]
      have j32 : j / 8 < 32 := by omega
      have hj32 : ¬ ((32 : Int) ≤ ((j / 8 : Nat) : Int)) := by omega
      have hq8 : (j : Int).tdiv 8 = ((j / 8 : Nat) : Int) := tdivI j 8
      have hr8 : (j : Int).tmod 8 = ((j % 8 : Nat) : Int) := tmodI j 8
      have hv : ladF (bitB C) u j (swapT (bitB C j) (stepT u (swapT (bitB C j) s))) = f := hr
      have hle := bitB_le C j
      generalize bitB C j = q at hbit hv hle
      have hbl := b.toNat_lt
      have HB8 := Lib.hid (And.intro hbit hv)
      clear hb8 hbit hv hr
      generalize hj8 : j / 8 = jq at *
      generalize hjm : j % 8 = jm at *
      go_upto_region 11 with fail
      clear c1 hq8
      go_wp2_with fail
      go_loopw [13, 14] (fun bv jv W => ∃ m : Nat, m ≤ jm ∧ jv = .int .i64 (m : Int) ∧ bv = .int .i64 ((b.toNat / 2 ^ m : Nat) : Int) ∧ Mem w [(w.heap.size, 22, bs A), (w.heap.size + 1, 22, bs U), (w.heap.size + 1 + 1, 22, kz8), (gn, 22, bs C), (gu, 30, de u), (go1, 30, de 1), (gx, 30, de (s.x)), (gz, 30, de (s.z)), (gw, 30, de (s.w)), (gt, 30, de (s.t))] W) (fun _ jv _ => jm - (intOf jv).toNat)
      case atStart => exact ⟨0, by omega, rfl, by rw [Nat.pow_zero, Nat.div_one], M⟩
      case round =>
        clear M
        obtain ⟨m, hm, rfl, rfl, M⟩ := hrel
        by_cases hlt : m < jm
        · have t1 : decide ((m : Int) < (jm : Int)) = true := by simp; omega
          have hq : ((b.toNat / 2 ^ m : Nat) : Int).tdiv 2 = ((b.toNat / 2 ^ (m + 1) : Nat) : Int) := by rw [← halves]; exact tdivI _ 2
          have hbm : b.toNat / 2 ^ m < 256 := Nat.lt_of_le_of_lt (Nat.div_le_self _ _) (by omega)
          have hbn : b.toNat / 2 ^ (m + 1) < 256 := Nat.lt_of_le_of_lt (Nat.div_le_self _ _) (by omega)
          generalize b.toNat / 2 ^ m = bm at *
          generalize hb9 : b.toNat / 2 ^ (m + 1) = bn at *
          go_wp2
          go_roundw
          case rel => exact ⟨m + 1, by omega, by go_num, by rw [hb9], M⟩
          case measure => simp [intOf]; omega
        · obtain rfl : m = jm := by omega
          have t1 : decide ((m : Int) < (m : Int)) = false := by simp
          have hq : ((b.toNat / 2 ^ m : Nat) : Int).tmod 2 = (q : Int) := by rw [HB8.out.1]; exact tmodI _ 2
          generalize b.toNat / 2 ^ m = bm at *
          have hv := HB8.out.2
          have hq01 : q = 1 ∨ q = 0 := by omega
          clear HB8 hj8 hjm j32 hj32
          rcases hq01 with rfl | rfl
          · rw [show (((1 : Nat) : Int)) = 1 from rfl] at hq
            rw [swapT_one, swapT_one] at hv
            have hs' : (⟨s.w, s.t, s.x, s.z⟩ : Two).Ok := ⟨hs.2.2.1, hs.2.2.2, hs.1, hs.2.1⟩
            go_upto_region 16 with fail
            refine wp_region_noPanic ?_
            refine wp_region_gate (c := 5) (S := fun Y => Has Y gt 30 (de s.t)) (by kernel_rfl) (M.drew.row 9 rfl) (fun hS => ?_)
            refine takeG hS 1 61 (.agg (de s.t)) _ rfl (by kernel_rfl) (by kernel_rfl) (by kernel_rfl) (by kernel_rfl) (fun _ _ _ h => h) rfl rfl (fun Y h => load_de (.tmp 11) _ _ h rfl rfl) ?_
            simp only [Act.put, List.setIfInBounds_toArray, List.set_cons_zero, List.set_cons_succ]
            clear hS
            refine wpAnyG_flow_pre (fin := ?fin6) 4 4 [1] [.inl (.agg (de s.w)),
              .inl (.agg (de s.t)),
              .inl (.agg (de s.x)),
              .inl (.agg (de s.z))] rfl rfl (by kernel_rfl) rfl (by kernel_rfl) (by kernel_rfl) rfl (fun Y hb => (M.drew.step hb).row 9 rfl) ?hfin6 ?hE6 ?hend6
            case hfin6 =>
              intro G
              simp only [flowAll, flowVal, Act.put, List.setIfInBounds_toArray, List.set_cons_zero, List.set_cons_succ]
              exact rfl
            case hE6 =>
              intro G
              refine ⟨Or.inr (fun W hB => known_val rfl (by exact load_de (.tmp 10) _ s.w ((M.drew.step hB).row 8 rfl) rfl rfl)),
                Or.inl rfl,
                Or.inr (fun W hB => known_val rfl (by exact load_de (.tmp 8) _ s.x ((M.drew.step hB).row 6 rfl) rfl rfl)),
                Or.inr (fun W hB => known_val rfl (by exact load_de (.tmp 9) _ s.z ((M.drew.step hB).row 7 rfl) rfl rfl)), trivial⟩
            intro G W hB hM
            replace M := M.drew.step hB
            clear hB hM G
            have M1 := M.store 6 rfl (de s.w)
            simp only [List.set_cons_zero, List.set_cons_succ] at M1
            refine skipG 4 (W.setRow gx (de s.w)) _ (by kernel_rfl) rfl rfl rfl (store_de (.tmp 8) (.tmp 60) gx s.w (M.row 6 rfl) (de_size _ _) rfl rfl rfl) (M1.row 9 rfl) ?_
            simp only [Act.put]
            generalize W.setRow gx (de s.w) = W1 at M1 ⊢
            clear M W
            refine gateSkip (W1.setRow gz (de s.t)) _ (by kernel_rfl) rfl rfl rfl (store_de (.tmp 9) (.tmp 61) gz s.t (M1.row 7 rfl) (de_size _ _) rfl rfl rfl) ?_
            simp only [Act.put]
            replace M1 := M1.store 7 rfl (de s.t)
            simp only [List.set_cons_zero, List.set_cons_succ] at M1
            generalize W1.setRow gz (de s.t) = W2 at M1 ⊢
            clear W1
            refine only0 6 (W2.setRow gw (de s.x)) _ (by kernel_rfl) rfl rfl rfl (store_de (.tmp 10) (.tmp 62) gw s.x (M1.row 8 rfl) (de_size _ _) rfl rfl rfl) ?_
            simp only [Act.put]
            replace M1 := M1.store 8 rfl (de s.x)
            simp only [List.set_cons_zero, List.set_cons_succ] at M1
            generalize W2.setRow gw (de s.x) = W3 at M1 ⊢
            clear W2
            refine only0 7 (W3.setRow gt (de s.z)) _ (by kernel_rfl) rfl rfl rfl (store_de (.tmp 11) (.tmp 63) gt s.z (M1.row 9 rfl) (de_size _ _) rfl rfl rfl) ?_
            have M := M1.store 9 rfl (de s.z)
            simp only [List.set_cons_zero, List.set_cons_succ] at M
            generalize W3.setRow gt (de s.z) = WA at M ⊢
            clear M1 W3
            simp only [Act.put]
            refine wpAny_end (by kernel_rfl) ?_ _
            refine NoPanic.normal ?_
            replace M : Mem w [(w.heap.size, 22, bs A), (w.heap.size + 1, 22, bs U), (w.heap.size + 1 + 1, 22, kz8), (gn, 22, bs C), (gu, 30, de u), (go1, 30, de 1), (gx, 30, de ((⟨s.w, s.t, s.x, s.z⟩ : Two).x)), (gz, 30, de ((⟨s.w, s.t, s.x, s.z⟩ : Two).z)), (gw, 30, de ((⟨s.w, s.t, s.x, s.z⟩ : Two).w)), (gt, 30, de ((⟨s.w, s.t, s.x, s.z⟩ : Two).t))] WA := M
            generalize (⟨s.w, s.t, s.x, s.z⟩ : Two) = s' at M hv hs'
            clear hs
            go_upto_region 17 with fail
            have hs2 := stepT_ok u s'
            obtain ⟨s2, h2⟩ : ∃ s2, s2 = stepT u s' := ⟨_, rfl⟩
            obtain ⟨e, f', g, h, i, j1, j', k1, k', p, q', r, y1, y2, pe, pf, pg, ph, pi, pj1, pj, pk1, pk, pp, pw, pq, pr, pt', px, py1, py2, pz⟩ := step_calls u HUU.out s' hs' s2 h2
            rw [← h2] at hs2 hv
            have PE := Lib.hid pe
            have PF := Lib.hid pf
            have PG := Lib.hid pg
            have PH := Lib.hid ph
            have PI := Lib.hid pi
            have PJ1 := Lib.hid pj1
            have PJ := Lib.hid pj
            have PK1 := Lib.hid pk1
            have PK := Lib.hid pk
            have PP := Lib.hid pp
            have PW := Lib.hid pw
            have PQ := Lib.hid pq
            have PR := Lib.hid pr
            have PT := Lib.hid pt'
            have PX := Lib.hid px
            have PY1 := Lib.hid py1
            have PY2 := Lib.hid py2
            have PZ := Lib.hid pz
            have HV := Lib.hid hv
            clear pe pf pg ph pi pj1 pj pk1 pk pp pw pq pr pt' px py1 py2 pz h2 hv hs'
            refine wp_region_noPanic ?_
            refine wp_region_flow_text (fin := ?fin7) 4 1 (by kernel_rfl) [.inl (.agg (de (s'.x))),
              .inl (.agg (de (s'.z))),
              .inl (.agg (de (e))),
              .inr (30, z32i)] rfl rfl (by kernel_rfl) ?hfin7 ?hE7 ?hend7
            case hfin7 =>
              intro G
              simp only [flowAll, flowVal, Act.put, List.setIfInBounds_toArray, List.set_cons_zero, List.set_cons_succ]
              exact rfl
            case hE7 =>
              intro G
              refine ⟨Or.inr (fun W hB => known_val rfl (by exact load_de (.tmp 8) _ (s'.x) ((M.step hB).row 6 rfl) rfl rfl)),
                Or.inr (fun W hB => known_val rfl (by exact load_de (.tmp 9) _ (s'.z) ((M.step hB).row 7 rfl) rfl rfl)),
                Or.inr (fun W hB => known_call 27 #[.agg (de (s'.x)), .agg (de (s'.z))] (PE.out W) rfl (by go_simp)),
                ⟨rfl, fun W => alloc_de rfl⟩, trivial⟩
            intro G W hB hM
            replace M := M.made hB hM 3 rfl rfl
            simp only [List.cons_append, List.nil_append] at M
            generalize G 3 = ge at M ⊢
            clear hB hM G
            refine only0 4 (W.setRow ge (de (e))) _ (by kernel_rfl) rfl rfl rfl (store_de (.tmp 15) (.tmp 66) ge (e) (M.row 10 rfl) (de_z _) rfl rfl rfl) ?_
            replace M := M.store 10 rfl (de (e))
            simp only [List.set_cons_zero, List.set_cons_succ] at M
            generalize W.setRow ge (de (e)) = V1 at M ⊢
            simp only [Act.put]
            refine wpAny_end (by kernel_rfl) ?_ _
            refine NoPanic.normal ?_
            clear W
            clear PE
            go_upto_region 18 with fail
            refine wp_region_noPanic ?_
            refine wp_region_flow_text (fin := ?fin8) 4 1 (by kernel_rfl) [.inl (.agg (de (e))),
              .inl (.agg (de (e))),
              .inl (.agg (de (f'))),
              .inr (30, z32i)] rfl rfl (by kernel_rfl) ?hfin8 ?hE8 ?hend8
            case hfin8 =>
              intro G
              simp only [flowAll, flowVal, Act.put, List.setIfInBounds_toArray, List.set_cons_zero, List.set_cons_succ]
              exact rfl
            case hE8 =>
              intro G
              refine ⟨Or.inr (fun W hB => known_val rfl (by exact load_de (.tmp 15) _ (e) ((M.step hB).row 10 rfl) rfl rfl)),
                Or.inr (fun W hB => known_val rfl (by exact load_de (.tmp 15) _ (e) ((M.step hB).row 10 rfl) rfl rfl)),
                Or.inr (fun W hB => known_call 18 #[.agg (de (e)), .agg (de (e))] (PF.out W) rfl (by go_simp)),
                ⟨rfl, fun W => alloc_de rfl⟩, trivial⟩
            intro G W hB hM
            replace M := M.made hB hM 3 rfl rfl
            simp only [List.cons_append, List.nil_append] at M
            generalize G 3 = gf at M ⊢
            clear hB hM G
            refine only0 4 (W.setRow gf (de (f'))) _ (by kernel_rfl) rfl rfl rfl (store_de (.tmp 16) (.tmp 69) gf (f') (M.row 11 rfl) (de_z _) rfl rfl rfl) ?_
            replace M := M.store 11 rfl (de (f'))
            simp only [List.set_cons_zero, List.set_cons_succ] at M
            generalize W.setRow gf (de (f')) = V2 at M ⊢
            simp only [Act.put]
            refine wpAny_end (by kernel_rfl) ?_ _
            refine NoPanic.normal ?_
            clear W
            clear PF
            go_upto_region 19 with fail
            refine wp_region_noPanic ?_
            refine wp_region_flow_text (fin := ?fin9) 4 1 (by kernel_rfl) [.inl (.agg (de (s'.x))),
              .inl (.agg (de (s'.z))),
              .inl (.agg (de (g))),
              .inr (30, z32i)] rfl rfl (by kernel_rfl) ?hfin9 ?hE9 ?hend9
            case hfin9 =>
              intro G
              simp only [flowAll, flowVal, Act.put, List.setIfInBounds_toArray, List.set_cons_zero, List.set_cons_succ]
              exact rfl
            case hE9 =>
              intro G
              refine ⟨Or.inr (fun W hB => known_val rfl (by exact load_de (.tmp 8) _ (s'.x) ((M.step hB).row 6 rfl) rfl rfl)),
                Or.inr (fun W hB => known_val rfl (by exact load_de (.tmp 9) _ (s'.z) ((M.step hB).row 7 rfl) rfl rfl)),
                Or.inr (fun W hB => known_call 28 #[.agg (de (s'.x)), .agg (de (s'.z))] (PG.out W) rfl (by go_simp)),
                ⟨rfl, fun W => alloc_de rfl⟩, trivial⟩
            intro G W hB hM
            replace M := M.made hB hM 3 rfl rfl
            simp only [List.cons_append, List.nil_append] at M
            generalize G 3 = gg at M ⊢
            clear hB hM G
            refine only0 4 (W.setRow gg (de (g))) _ (by kernel_rfl) rfl rfl rfl (store_de (.tmp 17) (.tmp 72) gg (g) (M.row 12 rfl) (de_z _) rfl rfl rfl) ?_
            replace M := M.store 12 rfl (de (g))
            simp only [List.set_cons_zero, List.set_cons_succ] at M
            generalize W.setRow gg (de (g)) = V3 at M ⊢
            simp only [Act.put]
            refine wpAny_end (by kernel_rfl) ?_ _
            refine NoPanic.normal ?_
            clear W
            clear PG
            go_upto_region 20 with fail
            refine wp_region_noPanic ?_
            refine wp_region_flow_text (fin := ?fin10) 4 1 (by kernel_rfl) [.inl (.agg (de (g))),
              .inl (.agg (de (g))),
              .inl (.agg (de (h))),
              .inr (30, z32i)] rfl rfl (by kernel_rfl) ?hfin10 ?hE10 ?hend10
            case hfin10 =>
              intro G
              simp only [flowAll, flowVal, Act.put, List.setIfInBounds_toArray, List.set_cons_zero, List.set_cons_succ]
              exact rfl
            case hE10 =>
              intro G
              refine ⟨Or.inr (fun W hB => known_val rfl (by exact load_de (.tmp 17) _ (g) ((M.step hB).row 12 rfl) rfl rfl)),
                Or.inr (fun W hB => known_val rfl (by exact load_de (.tmp 17) _ (g) ((M.step hB).row 12 rfl) rfl rfl)),
                Or.inr (fun W hB => known_call 18 #[.agg (de (g)), .agg (de (g))] (PH.out W) rfl (by go_simp)),
                ⟨rfl, fun W => alloc_de rfl⟩, trivial⟩
            intro G W hB hM
            replace M := M.made hB hM 3 rfl rfl
            simp only [List.cons_append, List.nil_append] at M
            generalize G 3 = gh at M ⊢
            clear hB hM G
            refine only0 4 (W.setRow gh (de (h))) _ (by kernel_rfl) rfl rfl rfl (store_de (.tmp 18) (.tmp 75) gh (h) (M.row 13 rfl) (de_z _) rfl rfl rfl) ?_
            replace M := M.store 13 rfl (de (h))
            simp only [List.set_cons_zero, List.set_cons_succ] at M
            generalize W.setRow gh (de (h)) = V4 at M ⊢
            simp only [Act.put]
            refine wpAny_end (by kernel_rfl) ?_ _
            refine NoPanic.normal ?_
            clear W
            clear PH
            go_upto_region 21 with fail
            refine wp_region_noPanic ?_
            refine wp_region_flow_text (fin := ?fin11) 4 1 (by kernel_rfl) [.inl (.agg (de (f'))),
              .inl (.agg (de (h))),
              .inl (.agg (de (i))),
              .inr (30, z32i)] rfl rfl (by kernel_rfl) ?hfin11 ?hE11 ?hend11
            case hfin11 =>
              intro G
              simp only [flowAll, flowVal, Act.put, List.setIfInBounds_toArray, List.set_cons_zero, List.set_cons_succ]
              exact rfl
            case hE11 =>
              intro G
              refine ⟨Or.inr (fun W hB => known_val rfl (by exact load_de (.tmp 16) _ (f') ((M.step hB).row 11 rfl) rfl rfl)),
                Or.inr (fun W hB => known_val rfl (by exact load_de (.tmp 18) _ (h) ((M.step hB).row 13 rfl) rfl rfl)),
                Or.inr (fun W hB => known_call 28 #[.agg (de (f')), .agg (de (h))] (PI.out W) rfl (by go_simp)),
                ⟨rfl, fun W => alloc_de rfl⟩, trivial⟩
            intro G W hB hM
            replace M := M.made hB hM 3 rfl rfl
            simp only [List.cons_append, List.nil_append] at M
            generalize G 3 = gi at M ⊢
            clear hB hM G
            refine only0 4 (W.setRow gi (de (i))) _ (by kernel_rfl) rfl rfl rfl (store_de (.tmp 19) (.tmp 78) gi (i) (M.row 14 rfl) (de_z _) rfl rfl rfl) ?_
            replace M := M.store 14 rfl (de (i))
            simp only [List.set_cons_zero, List.set_cons_succ] at M
            generalize W.setRow gi (de (i)) = V5 at M ⊢
            simp only [Act.put]
            refine wpAny_end (by kernel_rfl) ?_ _
            refine NoPanic.normal ?_
            clear W
            clear PI
            go_upto_region 22 with fail
            refine wp_region_noPanic ?_
            refine wp_region_flow (fin := ?fin12) 6 1 (by kernel_rfl) [.inl (.agg (de (s'.w))),
              .inl (.agg (de (s'.t))),
              .inl (.agg (de (j1))),
              .inl (.agg (de (e))),
              .inl (.agg (de (j'))),
              .inr (30, z32i)] rfl rfl (by kernel_rfl) ?hfin12 ?hE12 ?hend12
            case hfin12 =>
              intro G
              simp only [flowAll, flowVal, Act.put, List.setIfInBounds_toArray, List.set_cons_zero, List.set_cons_succ]
              exact rfl
            case hE12 =>
              intro G
              refine ⟨Or.inr (fun W hB => known_val rfl (by exact load_de (.tmp 10) _ (s'.w) ((M.drew.step hB).row 8 rfl) rfl rfl)),
                Or.inr (fun W hB => known_val rfl (by exact load_de (.tmp 11) _ (s'.t) ((M.drew.step hB).row 9 rfl) rfl rfl)),
                Or.inr (fun W hB => known_call 28 #[.agg (de (s'.w)), .agg (de (s'.t))] (PJ1.out W) rfl (by go_simp)),
                Or.inr (fun W hB => known_val rfl (by exact load_de (.tmp 15) _ (e) ((M.drew.step hB).row 10 rfl) rfl rfl)),
                Or.inr (fun W hB => known_call 18 #[.agg (de (j1)), .agg (de (e))] (PJ.out W) rfl (by go_simp)),
                ⟨rfl, fun W => alloc_de rfl⟩, trivial⟩
            intro G W hB hM
            replace M := M.drew.made hB hM 5 rfl rfl
            simp only [List.cons_append, List.nil_append] at M
            generalize G 5 = gj at M ⊢
            clear hB hM G
            refine only0 6 (W.setRow gj (de (j'))) _ (by kernel_rfl) rfl rfl rfl (store_de (.tmp 20) (.tmp 83) gj (j') (M.row 15 rfl) (de_z _) rfl rfl rfl) ?_
            replace M := M.store 15 rfl (de (j'))
            simp only [List.set_cons_zero, List.set_cons_succ] at M
            generalize W.setRow gj (de (j')) = V6 at M ⊢
            simp only [Act.put]
            refine wpAny_end (by kernel_rfl) ?_ _
            refine NoPanic.normal ?_
            clear W
            clear PJ PJ1
            go_upto_region 23 with fail
            refine wp_region_noPanic ?_
            refine wp_region_flow (fin := ?fin13) 6 1 (by kernel_rfl) [.inl (.agg (de (s'.w))),
              .inl (.agg (de (s'.t))),
              .inl (.agg (de (k1))),
              .inl (.agg (de (g))),
              .inl (.agg (de (k'))),
              .inr (30, z32i)] rfl rfl (by kernel_rfl) ?hfin13 ?hE13 ?hend13
            case hfin13 =>
              intro G
              simp only [flowAll, flowVal, Act.put, List.setIfInBounds_toArray, List.set_cons_zero, List.set_cons_succ]
              exact rfl
            case hE13 =>
              intro G
              refine ⟨Or.inr (fun W hB => known_val rfl (by exact load_de (.tmp 10) _ (s'.w) ((M.drew.step hB).row 8 rfl) rfl rfl)),
                Or.inr (fun W hB => known_val rfl (by exact load_de (.tmp 11) _ (s'.t) ((M.drew.step hB).row 9 rfl) rfl rfl)),
                Or.inr (fun W hB => known_call 27 #[.agg (de (s'.w)), .agg (de (s'.t))] (PK1.out W) rfl (by go_simp)),
                Or.inr (fun W hB => known_val rfl (by exact load_de (.tmp 17) _ (g) ((M.drew.step hB).row 12 rfl) rfl rfl)),
                Or.inr (fun W hB => known_call 18 #[.agg (de (k1)), .agg (de (g))] (PK.out W) rfl (by go_simp)),
                ⟨rfl, fun W => alloc_de rfl⟩, trivial⟩
            intro G W hB hM
            replace M := M.drew.made hB hM 5 rfl rfl
            simp only [List.cons_append, List.nil_append] at M
            generalize G 5 = gk at M ⊢
            clear hB hM G
            refine only0 6 (W.setRow gk (de (k'))) _ (by kernel_rfl) rfl rfl rfl (store_de (.tmp 21) (.tmp 88) gk (k') (M.row 16 rfl) (de_z _) rfl rfl rfl) ?_
            replace M := M.store 16 rfl (de (k'))
            simp only [List.set_cons_zero, List.set_cons_succ] at M
            generalize W.setRow gk (de (k')) = V7 at M ⊢
            simp only [Act.put]
            refine wpAny_end (by kernel_rfl) ?_ _
            refine NoPanic.normal ?_
            clear W
            clear PK PK1
            go_upto_region 24 with fail
            refine wp_region_noPanic ?_
            refine wp_region_flow (fin := ?fin14) 7 1 (by kernel_rfl) [.inl (.agg (de (j'))),
              .inl (.agg (de (k'))),
              .inl (.agg (de (p))),
              .inl (.agg (de (j'))),
              .inl (.agg (de (k'))),
              .inl (.agg (de (p))),
              .inl (.agg (de (s2.w)))] rfl rfl (by kernel_rfl) ?hfin14 ?hE14 ?hend14
            case hfin14 =>
              intro G
              simp only [flowAll, flowVal, Act.put, List.setIfInBounds_toArray, List.set_cons_zero, List.set_cons_succ]
              exact rfl
            case hE14 =>
              intro G
              refine ⟨Or.inr (fun W hB => known_val rfl (by exact load_de (.tmp 20) _ (j') ((M.drew.step hB).row 15 rfl) rfl rfl)),
                Or.inr (fun W hB => known_val rfl (by exact load_de (.tmp 21) _ (k') ((M.drew.step hB).row 16 rfl) rfl rfl)),
                Or.inr (fun W hB => known_call 27 #[.agg (de (j')), .agg (de (k'))] (PP.out W) rfl (by go_simp)),
                Or.inr (fun W hB => known_val rfl (by exact load_de (.tmp 20) _ (j') ((M.drew.step hB).row 15 rfl) rfl rfl)),
                Or.inr (fun W hB => known_val rfl (by exact load_de (.tmp 21) _ (k') ((M.drew.step hB).row 16 rfl) rfl rfl)),
                Or.inr (fun W hB => known_call 27 #[.agg (de (j')), .agg (de (k'))] (PP.out W) rfl (by go_simp)),
                Or.inr (fun W hB => known_call 18 #[.agg (de (p)), .agg (de (p))] (PW.out W) rfl (by go_simp)), trivial⟩
            intro G W hB hM
            replace M := M.drew.step hB
            clear hB hM G
            refine only0 7 (W.setRow gw (de (s2.w))) _ (by kernel_rfl) rfl rfl rfl (store_de (.tmp 10) (.tmp 95) gw (s2.w) (M.row 8 rfl) (de_size _ _) rfl rfl rfl) ?_
            replace M := M.store 8 rfl (de (s2.w))
            simp only [List.set_cons_zero, List.set_cons_succ] at M
            generalize W.setRow gw (de (s2.w)) = V8 at M ⊢
            simp only [Act.put]
            refine wpAny_end (by kernel_rfl) ?_ _
            refine NoPanic.normal ?_
            clear W
            clear PP PW
            go_upto_region 25 with fail
            refine wp_region_noPanic ?_
            refine wp_region_flow (fin := ?fin15) 9 1 (by kernel_rfl) [.inl (.agg (de (u))),
              .inl (.agg (de (j'))),
              .inl (.agg (de (k'))),
              .inl (.agg (de (q'))),
              .inl (.agg (de (j'))),
              .inl (.agg (de (k'))),
              .inl (.agg (de (q'))),
              .inl (.agg (de (r))),
              .inl (.agg (de (s2.t)))] rfl rfl (by kernel_rfl) ?hfin15 ?hE15 ?hend15
            case hfin15 =>
              intro G
              simp only [flowAll, flowVal, Act.put, List.setIfInBounds_toArray, List.set_cons_zero, List.set_cons_succ]
              exact rfl
            case hE15 =>
              intro G
              refine ⟨Or.inr (fun W hB => known_val rfl (by exact load_de (.tmp 6) _ (u) ((M.drew.step hB).row 4 rfl) rfl rfl)),
                Or.inr (fun W hB => known_val rfl (by exact load_de (.tmp 20) _ (j') ((M.drew.step hB).row 15 rfl) rfl rfl)),
                Or.inr (fun W hB => known_val rfl (by exact load_de (.tmp 21) _ (k') ((M.drew.step hB).row 16 rfl) rfl rfl)),
                Or.inr (fun W hB => known_call 28 #[.agg (de (j')), .agg (de (k'))] (PQ.out W) rfl (by go_simp)),
                Or.inr (fun W hB => known_val rfl (by exact load_de (.tmp 20) _ (j') ((M.drew.step hB).row 15 rfl) rfl rfl)),
                Or.inr (fun W hB => known_val rfl (by exact load_de (.tmp 21) _ (k') ((M.drew.step hB).row 16 rfl) rfl rfl)),
                Or.inr (fun W hB => known_call 28 #[.agg (de (j')), .agg (de (k'))] (PQ.out W) rfl (by go_simp)),
                Or.inr (fun W hB => known_call 18 #[.agg (de (q')), .agg (de (q'))] (PR.out W) rfl (by go_simp)),
                Or.inr (fun W hB => known_call 18 #[.agg (de (u)), .agg (de (r))] (PT.out W) rfl (by go_simp)), trivial⟩
            intro G W hB hM
            replace M := M.drew.step hB
            clear hB hM G
            refine only0 9 (W.setRow gt (de (s2.t))) _ (by kernel_rfl) rfl rfl rfl (store_de (.tmp 11) (.tmp 104) gt (s2.t) (M.row 9 rfl) (de_size _ _) rfl rfl rfl) ?_
            replace M := M.store 9 rfl (de (s2.t))
            simp only [List.set_cons_zero, List.set_cons_succ] at M
            generalize W.setRow gt (de (s2.t)) = V9 at M ⊢
            simp only [Act.put]
            refine wpAny_end (by kernel_rfl) ?_ _
            refine NoPanic.normal ?_
            clear W
            clear PQ PR PT
            go_upto_region 26 with fail
            refine wp_region_noPanic ?_
            refine wp_region_flow_text (fin := ?fin16) 3 1 (by kernel_rfl) [.inl (.agg (de (f'))),
              .inl (.agg (de (h))),
              .inl (.agg (de (s2.x)))] rfl rfl (by kernel_rfl) ?hfin16 ?hE16 ?hend16
            case hfin16 =>
              intro G
              simp only [flowAll, flowVal, Act.put, List.setIfInBounds_toArray, List.set_cons_zero, List.set_cons_succ]
              exact rfl
            case hE16 =>
              intro G
              refine ⟨Or.inr (fun W hB => known_val rfl (by exact load_de (.tmp 16) _ (f') ((M.step hB).row 11 rfl) rfl rfl)),
                Or.inr (fun W hB => known_val rfl (by exact load_de (.tmp 18) _ (h) ((M.step hB).row 13 rfl) rfl rfl)),
                Or.inr (fun W hB => known_call 18 #[.agg (de (f')), .agg (de (h))] (PX.out W) rfl (by go_simp)), trivial⟩
            intro G W hB hM
            replace M := M.step hB
            clear hB hM G
            refine only0 3 (W.setRow gx (de (s2.x))) _ (by kernel_rfl) rfl rfl rfl (store_de (.tmp 8) (.tmp 107) gx (s2.x) (M.row 6 rfl) (de_size _ _) rfl rfl rfl) ?_
            replace M := M.store 6 rfl (de (s2.x))
            simp only [List.set_cons_zero, List.set_cons_succ] at M
            generalize W.setRow gx (de (s2.x)) = V10 at M ⊢
            simp only [Act.put]
            refine wpAny_end (by kernel_rfl) ?_ _
            refine NoPanic.normal ?_
            clear W
            clear PX
            go_upto_region 27 with fail
            refine wp_region_noPanic ?_
            refine wp_region_flow (fin := ?fin17) 7 1 (by kernel_rfl) [.inl (.agg (de (i))),
              .inl (.agg (de (f'))),
              .inl (.agg (de 121665)),
              .inl (.agg (de (i))),
              .inl (.agg (de (y1))),
              .inl (.agg (de (y2))),
              .inl (.agg (de (s2.z)))] rfl rfl (by kernel_rfl) ?hfin17 ?hE17 ?hend17
            case hfin17 =>
              intro G
              simp only [flowAll, flowVal, Act.put, List.setIfInBounds_toArray, List.set_cons_zero, List.set_cons_succ]
              exact rfl
            case hE17 =>
              intro G
              refine ⟨Or.inr (fun W hB => known_val rfl (by exact load_de (.tmp 19) _ (i) ((M.drew.step hB).row 14 rfl) rfl rfl)),
                Or.inr (fun W hB => known_val rfl (by exact load_de (.tmp 16) _ (f') ((M.drew.step hB).row 11 rfl) rfl rfl)),
                Or.inr (fun W hB => known_val rfl (by exact build_de _ 121665 rfl (by kernel_rfl))),
                Or.inr (fun W hB => known_val rfl (by exact load_de (.tmp 19) _ (i) ((M.drew.step hB).row 14 rfl) rfl rfl)),
                Or.inr (fun W hB => known_call 18 #[.agg (de (121665)), .agg (de (i))] (PY1.out W) rfl (by go_simp)),
                Or.inr (fun W hB => known_call 27 #[.agg (de (f')), .agg (de (y1))] (PY2.out W) rfl (by go_simp)),
                Or.inr (fun W hB => known_call 18 #[.agg (de (i)), .agg (de (y2))] (PZ.out W) rfl (by go_simp)), trivial⟩
            intro G W hB hM
            replace M := M.drew.step hB
            clear hB hM G
            refine only0 7 (W.setRow gz (de (s2.z))) _ (by kernel_rfl) rfl rfl rfl (store_de (.tmp 9) (.tmp 114) gz (s2.z) (M.row 7 rfl) (de_size _ _) rfl rfl rfl) ?_
            replace M := M.store 7 rfl (de (s2.z))
            simp only [List.set_cons_zero, List.set_cons_succ] at M
            generalize W.setRow gz (de (s2.z)) = V11 at M ⊢
            simp only [Act.put]
            refine wpAny_end (by kernel_rfl) ?_ _
            refine NoPanic.normal ?_
            clear W
            clear PY1 PY2 PZ
            replace M := M.front (L := [(w.heap.size, 22, bs A), (w.heap.size + 1, 22, bs U), (w.heap.size + 1 + 1, 22, kz8), (gn, 22, bs C), (gu, 30, de u), (go1, 30, de 1), (gx, 30, de (s2.x)), (gz, 30, de (s2.z)), (gw, 30, de (s2.w)), (gt, 30, de (s2.t))])
            go_upto_region 29 with fail
            refine wp_region_noPanic ?_
            refine wp_region_gate (c := 5) (S := fun Y => Has Y gt 30 (de s2.t)) (by kernel_rfl) (M.drew.row 9 rfl) (fun hS => ?_)
            refine takeG hS 1 119 (.agg (de s2.t)) _ rfl (by kernel_rfl) (by kernel_rfl) (by kernel_rfl) (by kernel_rfl) (fun _ _ _ h => h) rfl rfl (fun Y h => load_de (.tmp 11) _ _ h rfl rfl) ?_
            simp only [Act.put, List.setIfInBounds_toArray, List.set_cons_zero, List.set_cons_succ]
            clear hS
            refine wpAnyG_flow_pre (fin := ?fin18) 4 4 [1] [.inl (.agg (de s2.w)),
              .inl (.agg (de s2.t)),
              .inl (.agg (de s2.x)),
              .inl (.agg (de s2.z))] rfl rfl (by kernel_rfl) rfl (by kernel_rfl) (by kernel_rfl) rfl (fun Y hb => (M.drew.step hb).row 9 rfl) ?hfin18 ?hE18 ?hend18
            case hfin18 =>
              intro G
              simp only [flowAll, flowVal, Act.put, List.setIfInBounds_toArray, List.set_cons_zero, List.set_cons_succ]
              exact rfl
            case hE18 =>
              intro G
              refine ⟨Or.inr (fun W hB => known_val rfl (by exact load_de (.tmp 10) _ s2.w ((M.drew.step hB).row 8 rfl) rfl rfl)),
                Or.inl rfl,
                Or.inr (fun W hB => known_val rfl (by exact load_de (.tmp 8) _ s2.x ((M.drew.step hB).row 6 rfl) rfl rfl)),
                Or.inr (fun W hB => known_val rfl (by exact load_de (.tmp 9) _ s2.z ((M.drew.step hB).row 7 rfl) rfl rfl)), trivial⟩
            intro G W hB hM
            replace M := M.drew.step hB
            clear hB hM G
            have M1 := M.store 6 rfl (de s2.w)
            simp only [List.set_cons_zero, List.set_cons_succ] at M1
            refine skipG 4 (W.setRow gx (de s2.w)) _ (by kernel_rfl) rfl rfl rfl (store_de (.tmp 8) (.tmp 118) gx s2.w (M.row 6 rfl) (de_size _ _) rfl rfl rfl) (M1.row 9 rfl) ?_
            simp only [Act.put]
            generalize W.setRow gx (de s2.w) = W1 at M1 ⊢
            clear M W
            refine gateSkip (W1.setRow gz (de s2.t)) _ (by kernel_rfl) rfl rfl rfl (store_de (.tmp 9) (.tmp 119) gz s2.t (M1.row 7 rfl) (de_size _ _) rfl rfl rfl) ?_
            simp only [Act.put]
            replace M1 := M1.store 7 rfl (de s2.t)
            simp only [List.set_cons_zero, List.set_cons_succ] at M1
            generalize W1.setRow gz (de s2.t) = W2 at M1 ⊢
            clear W1
            refine only0 6 (W2.setRow gw (de s2.x)) _ (by kernel_rfl) rfl rfl rfl (store_de (.tmp 10) (.tmp 120) gw s2.x (M1.row 8 rfl) (de_size _ _) rfl rfl rfl) ?_
            simp only [Act.put]
            replace M1 := M1.store 8 rfl (de s2.x)
            simp only [List.set_cons_zero, List.set_cons_succ] at M1
            generalize W2.setRow gw (de s2.x) = W3 at M1 ⊢
            clear W2
            refine only0 7 (W3.setRow gt (de s2.z)) _ (by kernel_rfl) rfl rfl rfl (store_de (.tmp 11) (.tmp 121) gt s2.z (M1.row 9 rfl) (de_size _ _) rfl rfl rfl) ?_
            have M := M1.store 9 rfl (de s2.z)
            simp only [List.set_cons_zero, List.set_cons_succ] at M
            generalize W3.setRow gt (de s2.z) = WB at M ⊢
            clear M1 W3
            simp only [Act.put]
            refine wpAny_end (by kernel_rfl) ?_ _
            refine NoPanic.normal ?_
            go_wp2
            go_roundw
            case rel => exact ⟨j, ⟨s2.w, s2.t, s2.x, s2.z⟩, by omega, rfl, ⟨hs2.2.2.1, hs2.2.2.2, hs2.1, hs2.2.1⟩, HV.out, M⟩
            case measure => simp [intOf]
          · rw [show (((0 : Nat) : Int)) = 0 from rfl] at hq
            rw [swapT_none, swapT_none] at hv
            have hs' := hs
            generalize s = s' at *
            clear hs
            go_upto_region 17 with fail
            have hs2 := stepT_ok u s'
            obtain ⟨s2, h2⟩ : ∃ s2, s2 = stepT u s' := ⟨_, rfl⟩
            obtain ⟨e, f', g, h, i, j1, j', k1, k', p, q', r, y1, y2, pe, pf, pg, ph, pi, pj1, pj, pk1, pk, pp, pw, pq, pr, pt', px, py1, py2, pz⟩ := step_calls u HUU.out s' hs' s2 h2
            rw [← h2] at hs2 hv
            have PE := Lib.hid pe
            have PF := Lib.hid pf
            have PG := Lib.hid pg
            have PH := Lib.hid ph
            have PI := Lib.hid pi
            have PJ1 := Lib.hid pj1
            have PJ := Lib.hid pj
            have PK1 := Lib.hid pk1
            have PK := Lib.hid pk
            have PP := Lib.hid pp
            have PW := Lib.hid pw
            have PQ := Lib.hid pq
            have PR := Lib.hid pr
            have PT := Lib.hid pt'
            have PX := Lib.hid px
            have PY1 := Lib.hid py1
            have PY2 := Lib.hid py2
            have PZ := Lib.hid pz
            have HV := Lib.hid hv
            clear pe pf pg ph pi pj1 pj pk1 pk pp pw pq pr pt' px py1 py2 pz h2 hv hs'
            refine wp_region_noPanic ?_
            refine wp_region_flow_text (fin := ?fin19) 4 1 (by kernel_rfl) [.inl (.agg (de (s'.x))),
              .inl (.agg (de (s'.z))),
              .inl (.agg (de (e))),
              .inr (30, z32i)] rfl rfl (by kernel_rfl) ?hfin19 ?hE19 ?hend19
            case hfin19 =>
              intro G
              simp only [flowAll, flowVal, Act.put, List.setIfInBounds_toArray, List.set_cons_zero, List.set_cons_succ]
              exact rfl
            case hE19 =>
              intro G
              refine ⟨Or.inr (fun W hB => known_val rfl (by exact load_de (.tmp 8) _ (s'.x) ((M.step hB).row 6 rfl) rfl rfl)),
                Or.inr (fun W hB => known_val rfl (by exact load_de (.tmp 9) _ (s'.z) ((M.step hB).row 7 rfl) rfl rfl)),
                Or.inr (fun W hB => known_call 27 #[.agg (de (s'.x)), .agg (de (s'.z))] (PE.out W) rfl (by go_simp)),
                ⟨rfl, fun W => alloc_de rfl⟩, trivial⟩
            intro G W hB hM
            replace M := M.made hB hM 3 rfl rfl
            simp only [List.cons_append, List.nil_append] at M
            generalize G 3 = ge at M ⊢
            clear hB hM G
            refine only0 4 (W.setRow ge (de (e))) _ (by kernel_rfl) rfl rfl rfl (store_de (.tmp 15) (.tmp 66) ge (e) (M.row 10 rfl) (de_z _) rfl rfl rfl) ?_
            replace M := M.store 10 rfl (de (e))
            simp only [List.set_cons_zero, List.set_cons_succ] at M
            generalize W.setRow ge (de (e)) = V12 at M ⊢
            simp only [Act.put]
            refine wpAny_end (by kernel_rfl) ?_ _
            refine NoPanic.normal ?_
            clear W
            clear PE
            go_upto_region 18 with fail
            refine wp_region_noPanic ?_
            refine wp_region_flow_text (fin := ?fin20) 4 1 (by kernel_rfl) [.inl (.agg (de (e))),
              .inl (.agg (de (e))),
              .inl (.agg (de (f'))),
              .inr (30, z32i)] rfl rfl (by kernel_rfl) ?hfin20 ?hE20 ?hend20
            case hfin20 =>
              intro G
              simp only [flowAll, flowVal, Act.put, List.setIfInBounds_toArray, List.set_cons_zero, List.set_cons_succ]
              exact rfl
            case hE20 =>
              intro G
              refine ⟨Or.inr (fun W hB => known_val rfl (by exact load_de (.tmp 15) _ (e) ((M.step hB).row 10 rfl) rfl rfl)),
                Or.inr (fun W hB => known_val rfl (by exact load_de (.tmp 15) _ (e) ((M.step hB).row 10 rfl) rfl rfl)),
                Or.inr (fun W hB => known_call 18 #[.agg (de (e)), .agg (de (e))] (PF.out W) rfl (by go_simp)),
                ⟨rfl, fun W => alloc_de rfl⟩, trivial⟩
            intro G W hB hM
            replace M := M.made hB hM 3 rfl rfl
            simp only [List.cons_append, List.nil_append] at M
            generalize G 3 = gf at M ⊢
            clear hB hM G
            refine only0 4 (W.setRow gf (de (f'))) _ (by kernel_rfl) rfl rfl rfl (store_de (.tmp 16) (.tmp 69) gf (f') (M.row 11 rfl) (de_z _) rfl rfl rfl) ?_
            replace M := M.store 11 rfl (de (f'))
            simp only [List.set_cons_zero, List.set_cons_succ] at M
            generalize W.setRow gf (de (f')) = V13 at M ⊢
            simp only [Act.put]
            refine wpAny_end (by kernel_rfl) ?_ _
            refine NoPanic.normal ?_
            clear W
            clear PF
            go_upto_region 19 with fail
            refine wp_region_noPanic ?_
            refine wp_region_flow_text (fin := ?fin21) 4 1 (by kernel_rfl) [.inl (.agg (de (s'.x))),
              .inl (.agg (de (s'.z))),
              .inl (.agg (de (g))),
              .inr (30, z32i)] rfl rfl (by kernel_rfl) ?hfin21 ?hE21 ?hend21
            case hfin21 =>
              intro G
              simp only [flowAll, flowVal, Act.put, List.setIfInBounds_toArray, List.set_cons_zero, List.set_cons_succ]
              exact rfl
            case hE21 =>
              intro G
              refine ⟨Or.inr (fun W hB => known_val rfl (by exact load_de (.tmp 8) _ (s'.x) ((M.step hB).row 6 rfl) rfl rfl)),
                Or.inr (fun W hB => known_val rfl (by exact load_de (.tmp 9) _ (s'.z) ((M.step hB).row 7 rfl) rfl rfl)),
                Or.inr (fun W hB => known_call 28 #[.agg (de (s'.x)), .agg (de (s'.z))] (PG.out W) rfl (by go_simp)),
                ⟨rfl, fun W => alloc_de rfl⟩, trivial⟩
            intro G W hB hM
            replace M := M.made hB hM 3 rfl rfl
            simp only [List.cons_append, List.nil_append] at M
            generalize G 3 = gg at M ⊢
            clear hB hM G
            refine only0 4 (W.setRow gg (de (g))) _ (by kernel_rfl) rfl rfl rfl (store_de (.tmp 17) (.tmp 72) gg (g) (M.row 12 rfl) (de_z _) rfl rfl rfl) ?_
            replace M := M.store 12 rfl (de (g))
            simp only [List.set_cons_zero, List.set_cons_succ] at M
            generalize W.setRow gg (de (g)) = V14 at M ⊢
            simp only [Act.put]
            refine wpAny_end (by kernel_rfl) ?_ _
            refine NoPanic.normal ?_
            clear W
            clear PG
            go_upto_region 20 with fail
            refine wp_region_noPanic ?_
            refine wp_region_flow_text (fin := ?fin22) 4 1 (by kernel_rfl) [.inl (.agg (de (g))),
              .inl (.agg (de (g))),
              .inl (.agg (de (h))),
              .inr (30, z32i)] rfl rfl (by kernel_rfl) ?hfin22 ?hE22 ?hend22
            case hfin22 =>
              intro G
              simp only [flowAll, flowVal, Act.put, List.setIfInBounds_toArray, List.set_cons_zero, List.set_cons_succ]
              exact rfl
            case hE22 =>
              intro G
              refine ⟨Or.inr (fun W hB => known_val rfl (by exact load_de (.tmp 17) _ (g) ((M.step hB).row 12 rfl) rfl rfl)),
                Or.inr (fun W hB => known_val rfl (by exact load_de (.tmp 17) _ (g) ((M.step hB).row 12 rfl) rfl rfl)),
                Or.inr (fun W hB => known_call 18 #[.agg (de (g)), .agg (de (g))] (PH.out W) rfl (by go_simp)),
                ⟨rfl, fun W => alloc_de rfl⟩, trivial⟩
            intro G W hB hM
            replace M := M.made hB hM 3 rfl rfl
            simp only [List.cons_append, List.nil_append] at M
            generalize G 3 = gh at M ⊢
            clear hB hM G
            refine only0 4 (W.setRow gh (de (h))) _ (by kernel_rfl) rfl rfl rfl (store_de (.tmp 18) (.tmp 75) gh (h) (M.row 13 rfl) (de_z _) rfl rfl rfl) ?_
            replace M := M.store 13 rfl (de (h))
            simp only [List.set_cons_zero, List.set_cons_succ] at M
            generalize W.setRow gh (de (h)) = V15 at M ⊢
            simp only [Act.put]
            refine wpAny_end (by kernel_rfl) ?_ _
            refine NoPanic.normal ?_
            clear W
            clear PH
            go_upto_region 21 with fail
            refine wp_region_noPanic ?_
            refine wp_region_flow_text (fin := ?fin23) 4 1 (by kernel_rfl) [.inl (.agg (de (f'))),
              .inl (.agg (de (h))),
              .inl (.agg (de (i))),
              .inr (30, z32i)] rfl rfl (by kernel_rfl) ?hfin23 ?hE23 ?hend23
            case hfin23 =>
              intro G
              simp only [flowAll, flowVal, Act.put, List.setIfInBounds_toArray, List.set_cons_zero, List.set_cons_succ]
              exact rfl
            case hE23 =>
              intro G
              refine ⟨Or.inr (fun W hB => known_val rfl (by exact load_de (.tmp 16) _ (f') ((M.step hB).row 11 rfl) rfl rfl)),
                Or.inr (fun W hB => known_val rfl (by exact load_de (.tmp 18) _ (h) ((M.step hB).row 13 rfl) rfl rfl)),
                Or.inr (fun W hB => known_call 28 #[.agg (de (f')), .agg (de (h))] (PI.out W) rfl (by go_simp)),
                ⟨rfl, fun W => alloc_de rfl⟩, trivial⟩
            intro G W hB hM
            replace M := M.made hB hM 3 rfl rfl
            simp only [List.cons_append, List.nil_append] at M
            generalize G 3 = gi at M ⊢
            clear hB hM G
            refine only0 4 (W.setRow gi (de (i))) _ (by kernel_rfl) rfl rfl rfl (store_de (.tmp 19) (.tmp 78) gi (i) (M.row 14 rfl) (de_z _) rfl rfl rfl) ?_
            replace M := M.store 14 rfl (de (i))
            simp only [List.set_cons_zero, List.set_cons_succ] at M
            generalize W.setRow gi (de (i)) = V16 at M ⊢
            simp only [Act.put]
            refine wpAny_end (by kernel_rfl) ?_ _
            refine NoPanic.normal ?_
            clear W
            clear PI
            go_upto_region 22 with fail
            refine wp_region_noPanic ?_
            refine wp_region_flow (fin := ?fin24) 6 1 (by kernel_rfl) [.inl (.agg (de (s'.w))),
              .inl (.agg (de (s'.t))),
              .inl (.agg (de (j1))),
              .inl (.agg (de (e))),
              .inl (.agg (de (j'))),
              .inr (30, z32i)] rfl rfl (by kernel_rfl) ?hfin24 ?hE24 ?hend24
            case hfin24 =>
              intro G
              simp only [flowAll, flowVal, Act.put, List.setIfInBounds_toArray, List.set_cons_zero, List.set_cons_succ]
              exact rfl
            case hE24 =>
              intro G
              refine ⟨Or.inr (fun W hB => known_val rfl (by exact load_de (.tmp 10) _ (s'.w) ((M.drew.step hB).row 8 rfl) rfl rfl)),
                Or.inr (fun W hB => known_val rfl (by exact load_de (.tmp 11) _ (s'.t) ((M.drew.step hB).row 9 rfl) rfl rfl)),
                Or.inr (fun W hB => known_call 28 #[.agg (de (s'.w)), .agg (de (s'.t))] (PJ1.out W) rfl (by go_simp)),
                Or.inr (fun W hB => known_val rfl (by exact load_de (.tmp 15) _ (e) ((M.drew.step hB).row 10 rfl) rfl rfl)),
                Or.inr (fun W hB => known_call 18 #[.agg (de (j1)), .agg (de (e))] (PJ.out W) rfl (by go_simp)),
                ⟨rfl, fun W => alloc_de rfl⟩, trivial⟩
            intro G W hB hM
            replace M := M.drew.made hB hM 5 rfl rfl
            simp only [List.cons_append, List.nil_append] at M
            generalize G 5 = gj at M ⊢
            clear hB hM G
            refine only0 6 (W.setRow gj (de (j'))) _ (by kernel_rfl) rfl rfl rfl (store_de (.tmp 20) (.tmp 83) gj (j') (M.row 15 rfl) (de_z _) rfl rfl rfl) ?_
            replace M := M.store 15 rfl (de (j'))
            simp only [List.set_cons_zero, List.set_cons_succ] at M
            generalize W.setRow gj (de (j')) = V17 at M ⊢
            simp only [Act.put]
            refine wpAny_end (by kernel_rfl) ?_ _
            refine NoPanic.normal ?_
            clear W
            clear PJ PJ1
            go_upto_region 23 with fail
            refine wp_region_noPanic ?_
            refine wp_region_flow (fin := ?fin25) 6 1 (by kernel_rfl) [.inl (.agg (de (s'.w))),
              .inl (.agg (de (s'.t))),
              .inl (.agg (de (k1))),
              .inl (.agg (de (g))),
              .inl (.agg (de (k'))),
              .inr (30, z32i)] rfl rfl (by kernel_rfl) ?hfin25 ?hE25 ?hend25
            case hfin25 =>
              intro G
              simp only [flowAll, flowVal, Act.put, List.setIfInBounds_toArray, List.set_cons_zero, List.set_cons_succ]
              exact rfl
            case hE25 =>
              intro G
              refine ⟨Or.inr (fun W hB => known_val rfl (by exact load_de (.tmp 10) _ (s'.w) ((M.drew.step hB).row 8 rfl) rfl rfl)),
                Or.inr (fun W hB => known_val rfl (by exact load_de (.tmp 11) _ (s'.t) ((M.drew.step hB).row 9 rfl) rfl rfl)),
                Or.inr (fun W hB => known_call 27 #[.agg (de (s'.w)), .agg (de (s'.t))] (PK1.out W) rfl (by go_simp)),
                Or.inr (fun W hB => known_val rfl (by exact load_de (.tmp 17) _ (g) ((M.drew.step hB).row 12 rfl) rfl rfl)),
                Or.inr (fun W hB => known_call 18 #[.agg (de (k1)), .agg (de (g))] (PK.out W) rfl (by go_simp)),
                ⟨rfl, fun W => alloc_de rfl⟩, trivial⟩
            intro G W hB hM
            replace M := M.drew.made hB hM 5 rfl rfl
            simp only [List.cons_append, List.nil_append] at M
            generalize G 5 = gk at M ⊢
            clear hB hM G
            refine only0 6 (W.setRow gk (de (k'))) _ (by kernel_rfl) rfl rfl rfl (store_de (.tmp 21) (.tmp 88) gk (k') (M.row 16 rfl) (de_z _) rfl rfl rfl) ?_
            replace M := M.store 16 rfl (de (k'))
            simp only [List.set_cons_zero, List.set_cons_succ] at M
            generalize W.setRow gk (de (k')) = V18 at M ⊢
            simp only [Act.put]
            refine wpAny_end (by kernel_rfl) ?_ _
            refine NoPanic.normal ?_
            clear W
            clear PK PK1
            go_upto_region 24 with fail
            refine wp_region_noPanic ?_
            refine wp_region_flow (fin := ?fin26) 7 1 (by kernel_rfl) [.inl (.agg (de (j'))),
              .inl (.agg (de (k'))),
              .inl (.agg (de (p))),
              .inl (.agg (de (j'))),
              .inl (.agg (de (k'))),
              .inl (.agg (de (p))),
              .inl (.agg (de (s2.w)))] rfl rfl (by kernel_rfl) ?hfin26 ?hE26 ?hend26
            case hfin26 =>
              intro G
              simp only [flowAll, flowVal, Act.put, List.setIfInBounds_toArray, List.set_cons_zero, List.set_cons_succ]
              exact rfl
            case hE26 =>
              intro G
              refine ⟨Or.inr (fun W hB => known_val rfl (by exact load_de (.tmp 20) _ (j') ((M.drew.step hB).row 15 rfl) rfl rfl)),
                Or.inr (fun W hB => known_val rfl (by exact load_de (.tmp 21) _ (k') ((M.drew.step hB).row 16 rfl) rfl rfl)),
                Or.inr (fun W hB => known_call 27 #[.agg (de (j')), .agg (de (k'))] (PP.out W) rfl (by go_simp)),
                Or.inr (fun W hB => known_val rfl (by exact load_de (.tmp 20) _ (j') ((M.drew.step hB).row 15 rfl) rfl rfl)),
                Or.inr (fun W hB => known_val rfl (by exact load_de (.tmp 21) _ (k') ((M.drew.step hB).row 16 rfl) rfl rfl)),
                Or.inr (fun W hB => known_call 27 #[.agg (de (j')), .agg (de (k'))] (PP.out W) rfl (by go_simp)),
                Or.inr (fun W hB => known_call 18 #[.agg (de (p)), .agg (de (p))] (PW.out W) rfl (by go_simp)), trivial⟩
            intro G W hB hM
            replace M := M.drew.step hB
            clear hB hM G
            refine only0 7 (W.setRow gw (de (s2.w))) _ (by kernel_rfl) rfl rfl rfl (store_de (.tmp 10) (.tmp 95) gw (s2.w) (M.row 8 rfl) (de_size _ _) rfl rfl rfl) ?_
            replace M := M.store 8 rfl (de (s2.w))
            simp only [List.set_cons_zero, List.set_cons_succ] at M
            generalize W.setRow gw (de (s2.w)) = V19 at M ⊢
            simp only [Act.put]
            refine wpAny_end (by kernel_rfl) ?_ _
            refine NoPanic.normal ?_
            clear W
            clear PP PW
            go_upto_region 25 with fail
            refine wp_region_noPanic ?_
            refine wp_region_flow (fin := ?fin27) 9 1 (by kernel_rfl) [.inl (.agg (de (u))),
              .inl (.agg (de (j'))),
              .inl (.agg (de (k'))),
              .inl (.agg (de (q'))),
              .inl (.agg (de (j'))),
              .inl (.agg (de (k'))),
              .inl (.agg (de (q'))),
              .inl (.agg (de (r))),
              .inl (.agg (de (s2.t)))] rfl rfl (by kernel_rfl) ?hfin27 ?hE27 ?hend27
            case hfin27 =>
              intro G
              simp only [flowAll, flowVal, Act.put, List.setIfInBounds_toArray, List.set_cons_zero, List.set_cons_succ]
              exact rfl
            case hE27 =>
              intro G
              refine ⟨Or.inr (fun W hB => known_val rfl (by exact load_de (.tmp 6) _ (u) ((M.drew.step hB).row 4 rfl) rfl rfl)),
                Or.inr (fun W hB => known_val rfl (by exact load_de (.tmp 20) _ (j') ((M.drew.step hB).row 15 rfl) rfl rfl)),
                Or.inr (fun W hB => known_val rfl (by exact load_de (.tmp 21) _ (k') ((M.drew.step hB).row 16 rfl) rfl rfl)),
                Or.inr (fun W hB => known_call 28 #[.agg (de (j')), .agg (de (k'))] (PQ.out W) rfl (by go_simp)),
                Or.inr (fun W hB => known_val rfl (by exact load_de (.tmp 20) _ (j') ((M.drew.step hB).row 15 rfl) rfl rfl)),
                Or.inr (fun W hB => known_val rfl (by exact load_de (.tmp 21) _ (k') ((M.drew.step hB).row 16 rfl) rfl rfl)),
                Or.inr (fun W hB => known_call 28 #[.agg (de (j')), .agg (de (k'))] (PQ.out W) rfl (by go_simp)),
                Or.inr (fun W hB => known_call 18 #[.agg (de (q')), .agg (de (q'))] (PR.out W) rfl (by go_simp)),
                Or.inr (fun W hB => known_call 18 #[.agg (de (u)), .agg (de (r))] (PT.out W) rfl (by go_simp)), trivial⟩
            intro G W hB hM
            replace M := M.drew.step hB
            clear hB hM G
            refine only0 9 (W.setRow gt (de (s2.t))) _ (by kernel_rfl) rfl rfl rfl (store_de (.tmp 11) (.tmp 104) gt (s2.t) (M.row 9 rfl) (de_size _ _) rfl rfl rfl) ?_
            replace M := M.store 9 rfl (de (s2.t))
            simp only [List.set_cons_zero, List.set_cons_succ] at M
            generalize W.setRow gt (de (s2.t)) = V20 at M ⊢
            simp only [Act.put]
            refine wpAny_end (by kernel_rfl) ?_ _
            refine NoPanic.normal ?_
            clear W
            clear PQ PR PT
            go_upto_region 26 with fail
            refine wp_region_noPanic ?_
            refine wp_region_flow_text (fin := ?fin28) 3 1 (by kernel_rfl) [.inl (.agg (de (f'))),
              .inl (.agg (de (h))),
              .inl (.agg (de (s2.x)))] rfl rfl (by kernel_rfl) ?hfin28 ?hE28 ?hend28
            case hfin28 =>
              intro G
              simp only [flowAll, flowVal, Act.put, List.setIfInBounds_toArray, List.set_cons_zero, List.set_cons_succ]
              exact rfl
            case hE28 =>
              intro G
              refine ⟨Or.inr (fun W hB => known_val rfl (by exact load_de (.tmp 16) _ (f') ((M.step hB).row 11 rfl) rfl rfl)),
                Or.inr (fun W hB => known_val rfl (by exact load_de (.tmp 18) _ (h) ((M.step hB).row 13 rfl) rfl rfl)),
                Or.inr (fun W hB => known_call 18 #[.agg (de (f')), .agg (de (h))] (PX.out W) rfl (by go_simp)), trivial⟩
            intro G W hB hM
            replace M := M.step hB
            clear hB hM G
            refine only0 3 (W.setRow gx (de (s2.x))) _ (by kernel_rfl) rfl rfl rfl (store_de (.tmp 8) (.tmp 107) gx (s2.x) (M.row 6 rfl) (de_size _ _) rfl rfl rfl) ?_
            replace M := M.store 6 rfl (de (s2.x))
            simp only [List.set_cons_zero, List.set_cons_succ] at M
            generalize W.setRow gx (de (s2.x)) = V21 at M ⊢
            simp only [Act.put]
            refine wpAny_end (by kernel_rfl) ?_ _
            refine NoPanic.normal ?_
            clear W
            clear PX
            go_upto_region 27 with fail
            refine wp_region_noPanic ?_
            refine wp_region_flow (fin := ?fin29) 7 1 (by kernel_rfl) [.inl (.agg (de (i))),
              .inl (.agg (de (f'))),
              .inl (.agg (de 121665)),
              .inl (.agg (de (i))),
              .inl (.agg (de (y1))),
              .inl (.agg (de (y2))),
              .inl (.agg (de (s2.z)))] rfl rfl (by kernel_rfl) ?hfin29 ?hE29 ?hend29
            case hfin29 =>
              intro G
              simp only [flowAll, flowVal, Act.put, List.setIfInBounds_toArray, List.set_cons_zero, List.set_cons_succ]
              exact rfl
            case hE29 =>
              intro G
              refine ⟨Or.inr (fun W hB => known_val rfl (by exact load_de (.tmp 19) _ (i) ((M.drew.step hB).row 14 rfl) rfl rfl)),
                Or.inr (fun W hB => known_val rfl (by exact load_de (.tmp 16) _ (f') ((M.drew.step hB).row 11 rfl) rfl rfl)),
                Or.inr (fun W hB => known_val rfl (by exact build_de _ 121665 rfl (by kernel_rfl))),
                Or.inr (fun W hB => known_val rfl (by exact load_de (.tmp 19) _ (i) ((M.drew.step hB).row 14 rfl) rfl rfl)),
                Or.inr (fun W hB => known_call 18 #[.agg (de (121665)), .agg (de (i))] (PY1.out W) rfl (by go_simp)),
                Or.inr (fun W hB => known_call 27 #[.agg (de (f')), .agg (de (y1))] (PY2.out W) rfl (by go_simp)),
                Or.inr (fun W hB => known_call 18 #[.agg (de (i)), .agg (de (y2))] (PZ.out W) rfl (by go_simp)), trivial⟩
            intro G W hB hM
            replace M := M.drew.step hB
            clear hB hM G
            refine only0 7 (W.setRow gz (de (s2.z))) _ (by kernel_rfl) rfl rfl rfl (store_de (.tmp 9) (.tmp 114) gz (s2.z) (M.row 7 rfl) (de_size _ _) rfl rfl rfl) ?_
            replace M := M.store 7 rfl (de (s2.z))
            simp only [List.set_cons_zero, List.set_cons_succ] at M
            generalize W.setRow gz (de (s2.z)) = V22 at M ⊢
            simp only [Act.put]
            refine wpAny_end (by kernel_rfl) ?_ _
            refine NoPanic.normal ?_
            clear W
            clear PY1 PY2 PZ
            replace M := M.front (L := [(w.heap.size, 22, bs A), (w.heap.size + 1, 22, bs U), (w.heap.size + 1 + 1, 22, kz8), (gn, 22, bs C), (gu, 30, de u), (go1, 30, de 1), (gx, 30, de (s2.x)), (gz, 30, de (s2.z)), (gw, 30, de (s2.w)), (gt, 30, de (s2.t))])
            go_wp2
            go_roundw
            case rel => exact ⟨j, s2, by omega, rfl, hs2, HV.out, M⟩
            case measure => simp [intOf]
end Go.Proofs.Ytdikkdediofieaa
