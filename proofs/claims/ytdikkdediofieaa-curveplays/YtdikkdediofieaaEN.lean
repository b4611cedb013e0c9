/- curve.Clamp, curve.Mul, curve.Inv, curve.Shared, curve.Public: walked. -/
import Derived.Test.YtdikkdediofieaaEM
namespace Go.Proofs.Ytdikkdediofieaa
open Go.RowKit
def kz : Array Value := bs (List.replicate 32 0)
theorem kinfo (l : List UInt8) (h : l.length = 32) : (Try.prog.info? 23).map (·.size) = some (bs l).size := by
  rw [bs_size, h]; exact (by kernel_rfl : (Try.prog.info? 23).map (·.size) = some 32)
theorem kz_size (l : List UInt8) (h : l.length = 32) : kz.size = (bs l).size := by unfold kz; rw [bs_size, bs_size, h]; rfl
section
variable {o : Oper} {ev : Operand → Value} {w : World}
theorem load_key (x : Operand) (g : Nat) (l : List UInt8) (hl : l.length = 32) (h : Has w g 23 (bs l)) (ho : o.op = .load 23 x) (he : ev x = .pointer (some ⟨g, 0, none⟩)) : (execOp ev o).run Try.prog w = .ok (.value (.agg (bs l))) w :=
  exec_load_row (P := Try.prog) 23 x g h Try.underlying23 rfl (kinfo l hl) ho he
theorem store_key (x y : Operand) (g : Nat) (l : List UInt8) (hl : l.length = 32) {old : Array Value} (h : Has w g 23 old) (hs : old.size = (bs l).size) (ho : o.op = .store 23 x y) (hx : ev x = .pointer (some ⟨g, 0, none⟩)) (hy : ev y = .agg (bs l)) :
    (execOp ev o).run Try.prog w = .ok .skip (w.setRow g (bs l)) := exec_store_row (P := Try.prog) (w := w) 23 x y g (bs l) h (kinfo l hl) hs (bs_one _) ho hx hy
end
theorem alloc_key {o : Oper} {ev : Operand → Value} {w : World} (ho : o.op = .alloc 23) : (execOp ev o).run Try.prog w = .ok (.value (.pointer (some ⟨w.heap.size, 0, none⟩))) (w.alloc (.cells kz 23)) := by
  unfold execOp
  simp only [ho]
  go_simp
  rfl
/-- a secret's scalar -/
def kclamp (l : List UInt8) : List UInt8 := (l.set 0 (l.getD 0 0 &&& 248)).set 31 ((l.getD 31 0 &&& 127) ||| 64)
theorem kclamp_length (l : List UInt8) : (kclamp l).length = l.length := by unfold kclamp; rw [List.length_set, List.length_set]
theorem kand (a : UInt8) (m : Nat) (hm : m < 256) : bits .and .u8 (a.toNat : Int) (m : Int) = ((a &&& UInt8.ofNat m).toNat : Int) := by
  rw [u8_and_nat _ _ a.toNat_lt hm, UInt8.toNat_and, UInt8.toNat_ofNat', Nat.mod_eq_of_lt hm]
theorem kor (a : UInt8) (m : Nat) (hm : m < 256) : bits .or .u8 (a.toNat : Int) (m : Int) = ((a ||| UInt8.ofNat m).toNat : Int) := by
  rw [u8_or_nat _ _ a.toNat_lt hm, UInt8.toNat_or, UInt8.toNat_ofNat', Nat.mod_eq_of_lt hm]
theorem getD_set_self8 (l : List UInt8) (i : Nat) (v : UInt8) (h : i < l.length) : (l.set i v).getD i 0 = v := by
  rw [List.getD_eq_getElem?_getD, List.getElem?_set_self h]; rfl
theorem getD_set_ne8 (l : List UInt8) (i j : Nat) (v : UInt8) (h : i ≠ j) : (l.set i v).getD j 0 = l.getD j 0 := by
  rw [List.getD_eq_getElem?_getD, List.getElem?_set_ne h, List.getD_eq_getElem?_getD]
set_option maxHeartbeats 400000 in
theorem kclamp_any (K : List UInt8) (hK : K.length = 32) (w : World) :
    Calls Try.prog 13 #[.agg (bs K)] w fun e w' => e = .returned (.agg (bs (kclamp K))) ∧ Below w.heap.size w w' := by
  have M0 : Mem w [(w.heap.size, 23, bs K), (w.heap.size + 1, 23, kz)] ((w.alloc (.cells (bs K) 23)).alloc (.cells kz 23)) :=
    ((Mem.init w).alloc _ rfl _ _).alloc _ (by simp) _ _
  have hR := (kclamp_length K).trans hK
  have x1 := kand (K.getD 0 0) 248 (by omega)
  have x2 := kand (K.getD 31 0) 127 (by omega)
  have x3 := kor (K.getD 31 0 &&& 127) 64 (by omega)
  change bits .and .u8 ((K.getD 0 0).toNat : Int) 248 = ((K.getD 0 0 &&& 248).toNat : Int) at x1
  change bits .and .u8 ((K.getD 31 0).toNat : Int) 127 = ((K.getD 31 0 &&& 127).toNat : Int) at x2
  change bits .or .u8 ((K.getD 31 0 &&& 127).toNat : Int) 64 = (((K.getD 31 0 &&& 127) ||| 64).toNat : Int) at x3
  have hr : ((K.set 0 (K.getD 0 0 &&& 248)).set 31 (K.getD 31 0 &&& 127)).set 31 ((K.getD 31 0 &&& 127) ||| 64) = kclamp K := by unfold kclamp; rw [List.set_set]
  obtain ⟨R, hR0⟩ : ∃ R, R = kclamp K := ⟨_, rfl⟩
  rw [← hR0] at hR hr ⊢
  have d31 : (K.set 0 (K.getD 0 0 &&& 248)).getD 31 0 = K.getD 31 0 := getD_set_ne8 _ _ _ _ (by omega)
  generalize K.getD 0 0 &&& 248 = b0 at x1 hr d31
  have d31b : ((K.set 0 b0).set 31 (K.getD 31 0 &&& 127)).getD 31 0 = K.getD 31 0 &&& 127 := getD_set_self8 _ _ _ (by rw [List.length_set]; omega)
  generalize K.getD 31 0 &&& 127 = b1 at x2 x3 hr d31b
  generalize b1 ||| 64 = b2 at x3 hr
  have l1 : (K.set 0 b0).length = 32 := by rw [List.length_set, hK]
  have l2 : ((K.set 0 b0).set 31 b1).length = 32 := by rw [List.length_set, l1]
  have HR := Lib.hid hR
  have HRR := Lib.hid hr
  have HL1 := Lib.hid l1
  have HL2 := Lib.hid l2
  have HD := Lib.hid d31
  have HD2 := Lib.hid d31b
  have HK := Lib.hid hK
  clear hR hr hR0 l1 l2 d31 d31b hK
  go_enter Try.func13, Try.ntmps13
  go_upto_region 1 with fail
  change Code.wp _ _ _ _ ((w.alloc (.cells (bs K) 23)).alloc (.cells kz 23))
  generalize (w.alloc (.cells (bs K) 23)).alloc (.cells kz 23) = w0 at M0 ⊢
  have c1 := (M0.row 0 rfl).byte 0 (by rw [HK.out]; omega)
  have f1 := (M0.row 0 rfl).frozen 0
  generalize K.getD 0 0 = a0 at c1 x1
  go_upto_region 2 with fail
  clear c1 f1 x1
  replace M0 := M0.setCell 0 rfl 0 (B8 b0)
  simp only [List.set_cons_zero] at M0
  rw [bs_set] at M0
  change Code.wp _ _ _ _ (w0.setCell ⟨w.heap.size, 0, none⟩ (B8 b0))
  generalize w0.setCell ⟨w.heap.size, 0, none⟩ (B8 b0) = w1 at M0 ⊢
  have c1 := (M0.row 0 rfl).byte 31 (by rw [HL1.out]; omega)
  have f1 := (M0.row 0 rfl).frozen 31
  rw [HD.out] at c1
  generalize K.getD 31 0 = a1 at c1 x2
  go_upto_region 3 with fail
  clear c1 f1 x2
  replace M0 := M0.setCell 0 rfl 31 (B8 b1)
  simp only [List.set_cons_zero] at M0
  rw [bs_set] at M0
  change Code.wp _ _ _ _ (w1.setCell ⟨w.heap.size, 31, none⟩ (B8 b1))
  generalize w1.setCell ⟨w.heap.size, 31, none⟩ (B8 b1) = w2 at M0 ⊢
  have c1 := (M0.row 0 rfl).byte 31 (by rw [HL2.out]; omega)
  have f1 := (M0.row 0 rfl).frozen 31
  rw [HD2.out] at c1
  go_upto_region 4 with fail
  clear c1 f1 x3
  replace M0 := M0.setCell 0 rfl 31 (B8 b2)
  simp only [List.set_cons_zero] at M0
  rw [bs_set, HRR.out] at M0
  change Code.wp _ _ _ _ (w2.setCell ⟨w.heap.size, 31, none⟩ (B8 b2))
  generalize w2.setCell ⟨w.heap.size, 31, none⟩ (B8 b2) = w3 at M0 ⊢
  have r0 := M0.row 0 rfl
  have r1 := M0.row 1 rfl
  go_wp2_with (first
    | (refine wpList_load_row rfl 23 (.tmp 1) rfl w.heap.size rfl 23 (bs R) (0, 0) _ r0 Try.underlying23 rfl (kinfo R HR.out) ?_)
    | (refine wpList_store_row rfl 23 (.tmp 2) (.tmp 15) rfl (w.heap.size + 1) (bs R) rfl rfl 23 kz r1 (kinfo R HR.out) (kz_size R HR.out) (bs_one _) ?_))
  replace M0 := M0.store 1 rfl (bs R)
  simp only [List.set_cons_zero, List.set_cons_succ] at M0
  exact bodyPost_ret (v := .agg (bs R)) (results_cell_row rfl _ _ (w.heap.size + 1) 23 (bs R) (0, 0) _ rfl (M0.row 1 rfl) Try.underlying23 rfl (kinfo R HR.out)) rfl ⟨rfl, M0.below⟩
/-- what the functions answer of keys -/
def mulK (a b : List UInt8) : List UInt8 := lowB (fmul (placeN a) (placeN b)) 32
def invK (a : List UInt8) : List UInt8 := lowB (finv (placeN a)) 32
def sharedN (bit : Nat → Nat) (u : Nat) : Nat := fmul (ladF bit u 255 ⟨1, 0, u, 1⟩).x (finv (ladF bit u 255 ⟨1, 0, u, 1⟩).z)
def sharedK (a u : List UInt8) : List UInt8 := lowB (sharedN (bitB (kclamp a)) (placeN u)) 32
theorem ladF_ok (bit : Nat → Nat) (u : Nat) : ∀ (k : Nat) (s : Two), s.Ok → (ladF bit u k s).Ok
  | 0, _, h => h
  | k + 1, _, _ => ladF_ok bit u k _ (swapT_ok (stepT_ok _ _))
theorem start_ok (u : Nat) (hu : u < 57896044618658097711785492504343953926634992332820282019728792003956564819949) : (⟨1, 0, u, 1⟩ : Two).Ok := ⟨by show 1 < _; omega, by show 0 < _; omega, hu, by show 1 < _; omega⟩
theorem mul_any (A B : List UInt8) (hA : A.length = 32) (hB : B.length = 32) (w : World) :
    Calls Try.prog 14 #[.agg (bs A), .agg (bs B)] w fun e w' => e = .returned (.agg (bs (mulK A B))) ∧ Below w.heap.size w w' := by
  have M0 : Mem w [(w.heap.size, 23, bs A), (w.heap.size + 1, 23, bs B), (w.heap.size + 1 + 1, 23, kz)] (((w.alloc (.cells (bs A) 23)).alloc (.cells (bs B) 23)).alloc (.cells kz 23)) :=
    (((Mem.init w).alloc _ rfl _ _).alloc _ (by simp) _ _).alloc _ (by simp) _ _
  have p1 := place_any A hA
  have p2 := place_any B hB
  have p3 := product_el (placeN A) (placeN B) (placeN_lt A) (placeN_lt B)
  have p4 := key_any (fmul (placeN A) (placeN B))
  change ∀ w, Calls _ _ _ w (fun e w' => e = .returned (.agg (bs (mulK A B))) ∧ Below w.heap.size w w') at p4
  have lR : (mulK A B).length = 32 := lowB_length _ _
  generalize mulK A B = R at p4 lR ⊢
  generalize fmul (placeN A) (placeN B) = m at p3 p4
  generalize placeN A = x at p1 p3
  generalize placeN B = y at p2 p3
  have P1 := Lib.hid p1
  have P2 := Lib.hid p2
  have P3 := Lib.hid p3
  have P4 := Lib.hid p4
  have LR := Lib.hid lR
  have HA := Lib.hid hA
  have HB := Lib.hid hB
  clear p1 p2 p3 p4 lR hA hB
  go_enter Try.func14, Try.ntmps14
  go_upto_region 1 with fail
  change Code.wp _ _ _ _ (((w.alloc (.cells (bs A) 23)).alloc (.cells (bs B) 23)).alloc (.cells kz 23))
  generalize ((w.alloc (.cells (bs A) 23)).alloc (.cells (bs B) 23)).alloc (.cells kz 23) = w0 at M0 ⊢
  refine wp_region_noPanic ?_
  refine wp_region_flow (fin := ?fin1) 6 1 (by kernel_rfl) [.inl (.agg (bs A)),
    .inl (.agg (el x)),
    .inl (.agg (bs B)),
    .inl (.agg (el y)),
    .inl (.agg (el m)),
    .inl (.agg (bs R))] rfl rfl (by kernel_rfl) ?hfin1 ?hE1 ?hend1
  case hfin1 =>
    intro G
    simp only [flowAll, flowVal, Act.put, List.setIfInBounds_toArray, List.set_cons_zero, List.set_cons_succ]
    exact rfl
  case hE1 =>
    intro G
    refine ⟨Or.inr (fun W hB => known_val rfl (by exact load_key (.tmp 2) _ A HA.out ((M0.drew.step hB).row 0 rfl) rfl rfl)),
      Or.inr (fun W hB => known_call 22 #[.agg (bs A)] (P1.out W) rfl (by go_simp)),
      Or.inr (fun W hB => known_val rfl (by exact load_key (.tmp 3) _ B HB.out ((M0.drew.step hB).row 1 rfl) rfl rfl)),
      Or.inr (fun W hB => known_call 22 #[.agg (bs B)] (P2.out W) rfl (by go_simp)),
      Or.inr (fun W hB => known_call 24 #[.agg (el x), .agg (el y)] (P3.out W) rfl (by go_simp)),
      Or.inr (fun W hB => known_call 23 #[.agg (el m)] (P4.out W) rfl (by go_simp)), trivial⟩
  intro G W hB hM
  replace M0 := M0.drew.step hB
  clear hB hM G
  refine only0 6 (W.setRow (w.heap.size + 1 + 1) (bs R)) _ (by kernel_rfl) rfl rfl rfl (store_key (.tmp 4) (.tmp 10) (w.heap.size + 1 + 1) R LR.out (M0.row 2 rfl) (kz_size R LR.out) rfl rfl rfl) ?_
  replace M0 := M0.store 2 rfl (bs R)
  simp only [List.set_cons_zero, List.set_cons_succ] at M0
  generalize W.setRow (w.heap.size + 1 + 1) (bs R) = W1 at M0 ⊢
  simp only [Act.put]
  refine wpAny_end (by kernel_rfl) ?_ _
  refine NoPanic.normal ?_
  go_wp2
  exact bodyPost_ret (v := .agg (bs R)) (results_cell_row rfl _ _ (w.heap.size + 1 + 1) 23 (bs R) (0, 0) _ rfl (M0.row 2 rfl) Try.underlying23 rfl (kinfo R LR.out)) rfl ⟨rfl, M0.below⟩
theorem inv_any (A : List UInt8) (hA : A.length = 32) (w : World) :
    Calls Try.prog 15 #[.agg (bs A)] w fun e w' => e = .returned (.agg (bs (invK A))) ∧ Below w.heap.size w w' := by
  have M0 : Mem w [(w.heap.size, 23, bs A), (w.heap.size + 1, 23, kz)] ((w.alloc (.cells (bs A) 23)).alloc (.cells kz 23)) :=
    ((Mem.init w).alloc _ rfl _ _).alloc _ (by simp) _ _
  have p1 := place_any A hA
  have p2 := inverse_any (placeN A) (placeN_lt A)
  have p4 := key_any (finv (placeN A))
  change ∀ w, Calls _ _ _ w (fun e w' => e = .returned (.agg (bs (invK A))) ∧ Below w.heap.size w w') at p4
  have lR : (invK A).length = 32 := lowB_length _ _
  generalize invK A = R at p4 lR ⊢
  generalize finv (placeN A) = m at p2 p4
  generalize placeN A = x at p1 p2
  have P1 := Lib.hid p1
  have P2 := Lib.hid p2
  have P4 := Lib.hid p4
  have LR := Lib.hid lR
  have HA := Lib.hid hA
  clear p1 p2 p4 lR hA
  go_enter Try.func15, Try.ntmps15
  go_upto_region 1 with fail
  change Code.wp _ _ _ _ ((w.alloc (.cells (bs A) 23)).alloc (.cells kz 23))
  generalize (w.alloc (.cells (bs A) 23)).alloc (.cells kz 23) = w0 at M0 ⊢
  have r0 := M0.row 0 rfl
  go_wp2_with (refine wpList_load_row rfl 23 (.tmp 1) rfl w.heap.size rfl 23 (bs A) (0, 0) _ r0 Try.underlying23 rfl (kinfo A HA.out) ?_)
  go_at_call 22
  refine (P1.out _).mono ?_
  rintro e w1 ⟨rfl, hb1⟩
  clear r0 P1
  replace M0 := M0.step hb1
  clear hb1 w0
  go_wp2_with fail
  go_at_call 25
  refine (P2.out _).mono ?_
  rintro e w2 ⟨rfl, hb1⟩
  replace M0 := M0.step hb1
  clear hb1 w1 P2
  go_wp2_with fail
  go_at_call 23
  refine (P4.out _).mono ?_
  rintro e w3 ⟨rfl, hb1⟩
  replace M0 := M0.step hb1
  clear hb1 w2 P4
  have r1 := M0.row 1 rfl
  go_wp2_with (refine wpList_store_row rfl 23 (.tmp 2) (.tmp 6) rfl (w.heap.size + 1) (bs R) rfl rfl 23 kz r1 (kinfo R LR.out) (kz_size R LR.out) (bs_one _) ?_)
  replace M0 := M0.store 1 rfl (bs R)
  simp only [List.set_cons_zero, List.set_cons_succ] at M0
  exact bodyPost_ret (v := .agg (bs R)) (results_cell_row rfl _ _ (w.heap.size + 1) 23 (bs R) (0, 0) _ rfl (M0.row 1 rfl) Try.underlying23 rfl (kinfo R LR.out)) rfl ⟨rfl, M0.below⟩
set_option maxHeartbeats 1000000 in
theorem shared_any (A U : List UInt8) (hA : A.length = 32) (hU : U.length = 32) (w : World) :
    Calls Try.prog 11 #[.agg (bs A), .agg (bs U)] w fun e w' => e = .returned (.agg (bs (sharedK A U))) ∧ Below w.heap.size w w' := by
  have M0 : Mem w [(w.heap.size, 23, bs A), (w.heap.size + 1, 23, bs U), (w.heap.size + 1 + 1, 23, kz)] (((w.alloc (.cells (bs A) 23)).alloc (.cells (bs U) 23)).alloc (.cells kz 23)) :=
    (((Mem.init w).alloc _ rfl _ _).alloc _ (by simp) _ _).alloc _ (by simp) _ _
  have p1 := kclamp_any A hA
  have p2 := place_any U hU
  have lC : (kclamp A).length = 32 := (kclamp_length A).trans hA
  have p3 := ladder_any (kclamp A) lC (placeN U) (placeN_lt U)
  have ok := ladF_ok (bitB (kclamp A)) (placeN U) 255 _ (start_ok _ (placeN_lt U))
  have hs : sharedK A U = lowB (fmul (ladF (bitB (kclamp A)) (placeN U) 255 ⟨1, 0, placeN U, 1⟩).x (finv (ladF (bitB (kclamp A)) (placeN U) 255 ⟨1, 0, placeN U, 1⟩).z)) 32 := rfl
  generalize ladF (bitB (kclamp A)) (placeN U) 255 ⟨1, 0, placeN U, 1⟩ = s at p3 ok hs
  have p4 := inverse_any s.z ok.2.1
  have p5 := product_el s.x (finv s.z) ok.1 (finv_lt _)
  have p6 := key_any (fmul s.x (finv s.z))
  rw [← hs] at p6
  have lR : (sharedK A U).length = 32 := lowB_length _ _
  generalize sharedK A U = R at p6 lR ⊢
  generalize fmul s.x (finv s.z) = m at p5 p6
  generalize finv s.z = z at p4 p5
  generalize kclamp A = C at p1 p3
  generalize placeN U = u at p2 p3
  have P1 := Lib.hid p1
  have P2 := Lib.hid p2
  have P3 := Lib.hid p3
  have P4 := Lib.hid p4
  have P5 := Lib.hid p5
  have P6 := Lib.hid p6
  have LR := Lib.hid lR
  have HA := Lib.hid hA
  have HU := Lib.hid hU
  clear p1 p2 p3 p4 p5 p6 lR hA hU hs ok lC
  go_enter Try.func11, Try.ntmps11
  go_upto_region 1 with fail
  change Code.wp _ _ _ _ (((w.alloc (.cells (bs A) 23)).alloc (.cells (bs U) 23)).alloc (.cells kz 23))
  generalize ((w.alloc (.cells (bs A) 23)).alloc (.cells (bs U) 23)).alloc (.cells kz 23) = w0 at M0 ⊢
  refine wp_region_noPanic ?_
  refine wp_region_flow (fin := ?fin2) 6 1 (by kernel_rfl) [.inl (.agg (bs A)),
    .inl (.agg (bs C)),
    .inl (.agg (bs U)),
    .inl (.agg (el u)),
    .inl (.agg (pt s.x s.z)),
    .inr (41, z8w)] rfl rfl (by kernel_rfl) ?hfin2 ?hE2 ?hend2
  case hfin2 =>
    intro G
    simp only [flowAll, flowVal, Act.put, List.setIfInBounds_toArray, List.set_cons_zero, List.set_cons_succ]
    exact rfl
  case hE2 =>
    intro G
    refine ⟨Or.inr (fun W hB => known_val rfl (by exact load_key (.tmp 2) _ A HA.out ((M0.drew.step hB).row 0 rfl) rfl rfl)),
      Or.inr (fun W hB => known_call 13 #[.agg (bs A)] (P1.out W) rfl (by go_simp)),
      Or.inr (fun W hB => known_val rfl (by exact load_key (.tmp 3) _ U HU.out ((M0.drew.step hB).row 1 rfl) rfl rfl)),
      Or.inr (fun W hB => known_call 22 #[.agg (bs U)] (P2.out W) rfl (by go_simp)),
      Or.inr (fun W hB => known_call 21 #[.agg (bs C), .agg (el u)] (P3.out W) rfl (by go_simp)),
      ⟨rfl, fun W => alloc_pt rfl⟩, trivial⟩
  intro G W hB hM
  replace M0 := M0.drew.made hB hM 5 rfl rfl
  simp only [List.cons_append, List.nil_append] at M0
  generalize G 5 = g5 at M0 ⊢
  clear hB hM G w0 P1 P2 P3
  refine only0 6 (W.setRow g5 (pt s.x s.z)) _ (by kernel_rfl) rfl rfl rfl (store_pt (.tmp 5) (.tmp 10) g5 s.x s.z (M0.row 3 rfl) (pt_z8 _ _) rfl rfl rfl) ?_
  replace M0 := M0.store 3 rfl (pt s.x s.z)
  simp only [List.set_cons_zero, List.set_cons_succ] at M0
  generalize W.setRow g5 (pt s.x s.z) = W1 at M0 ⊢
  simp only [Act.put]
  refine wpAny_end (by kernel_rfl) ?_ _
  refine NoPanic.normal ?_
  clear W
  go_wp2_with fail
  refine wp_region_noPanic ?_
  refine wp_region_flow (fin := ?fin3) 7 1 (by kernel_rfl) [.inl (.pointer (some ⟨g5, 0, none⟩)),
    .inl (.agg (el s.x)),
    .inl (.pointer (some ⟨g5, 4, none⟩)),
    .inl (.agg (el s.z)),
    .inl (.agg (el z)),
    .inl (.agg (el m)),
    .inl (.agg (bs R))] rfl rfl (by kernel_rfl) ?hfin3 ?hE3 ?hend3
  case hfin3 =>
    intro G
    simp only [flowAll, flowVal, Act.put, List.setIfInBounds_toArray, List.set_cons_zero, List.set_cons_succ]
    exact rfl
  case hE3 =>
    intro G
    refine ⟨Or.inr (fun W hB => known_val rfl (by go_simp)),
      Or.inr (fun W hB => known_val rfl (by exact load_fst (.tmp 11) _ s.x s.z ((M0.drew.step hB).row 3 rfl) rfl rfl)),
      Or.inr (fun W hB => known_val rfl (by go_simp)),
      Or.inr (fun W hB => known_val rfl (by exact load_snd (.tmp 13) _ s.x s.z ((M0.drew.step hB).row 3 rfl) rfl rfl)),
      Or.inr (fun W hB => known_call 25 #[.agg (el s.z)] (P4.out W) rfl (by go_simp)),
      Or.inr (fun W hB => known_call 24 #[.agg (el s.x), .agg (el z)] (P5.out W) rfl (by go_simp)),
      Or.inr (fun W hB => known_call 23 #[.agg (el m)] (P6.out W) rfl (by go_simp)), trivial⟩
  intro G W hB hM
  replace M0 := M0.drew.step hB
  clear hB hM G
  refine only0 7 (W.setRow (w.heap.size + 1 + 1) (bs R)) _ (by kernel_rfl) rfl rfl rfl (store_key (.tmp 4) (.tmp 17) (w.heap.size + 1 + 1) R LR.out (M0.row 2 rfl) (kz_size R LR.out) rfl rfl rfl) ?_
  replace M0 := M0.store 2 rfl (bs R)
  simp only [List.set_cons_zero, List.set_cons_succ] at M0
  generalize W.setRow (w.heap.size + 1 + 1) (bs R) = W2 at M0 ⊢
  simp only [Act.put]
  refine wpAny_end (by kernel_rfl) ?_ _
  refine NoPanic.normal ?_
  go_wp2
  exact bodyPost_ret (v := .agg (bs R)) (results_cell_row rfl _ _ (w.heap.size + 1 + 1) 23 (bs R) (0, 0) _ rfl (M0.row 2 rfl) Try.underlying23 rfl (kinfo R LR.out)) rfl ⟨rfl, M0.below⟩
def nineK : List UInt8 := 9 :: List.replicate 31 0
theorem public_any (A : List UInt8) (hA : A.length = 32) (w : World) :
    Calls Try.prog 12 #[.agg (bs A)] w fun e w' => e = .returned (.agg (bs (sharedK A nineK))) ∧ Below w.heap.size w w' := by
  have M0 : Mem w [(w.heap.size, 23, bs A), (w.heap.size + 1, 23, kz)] ((w.alloc (.cells (bs A) 23)).alloc (.cells kz 23)) :=
    ((Mem.init w).alloc _ rfl _ _).alloc _ (by simp) _ _
  have p1 := shared_any A nineK hA rfl
  have lR : (sharedK A nineK).length = 32 := lowB_length _ _
  generalize sharedK A nineK = R at p1 lR ⊢
  have P1 := Lib.hid p1
  have LR := Lib.hid lR
  have HA := Lib.hid hA
  clear p1 lR hA
  go_enter Try.func12, Try.ntmps12
  go_upto_region 1 with fail
  change Code.wp _ _ _ _ ((w.alloc (.cells (bs A) 23)).alloc (.cells kz 23))
  generalize (w.alloc (.cells (bs A) 23)).alloc (.cells kz 23) = w0 at M0 ⊢
  have r0 := M0.row 0 rfl
  go_wp2_with (first
    | (refine wpList_load_row rfl 23 (.tmp 1) rfl w.heap.size rfl 23 (bs A) (0, 0) _ r0 Try.underlying23 rfl (kinfo A HA.out) ?_)
    | (refine wpList_buildTo rfl 23 _ rfl (some 4) rfl (bs nineK) (by kernel_rfl) ?_))
  go_at_call 11
  refine (P1.out _).mono ?_
  rintro e w1 ⟨rfl, hb1⟩
  clear r0 P1
  replace M0 := M0.step hb1
  clear hb1 w0
  have r1 := M0.row 1 rfl
  go_wp2_with (refine wpList_store_row rfl 23 (.tmp 2) (.tmp 5) rfl (w.heap.size + 1) (bs R) rfl rfl 23 kz r1 (kinfo R LR.out) (kz_size R LR.out) (bs_one _) ?_)
  replace M0 := M0.store 1 rfl (bs R)
  simp only [List.set_cons_zero, List.set_cons_succ] at M0
  exact bodyPost_ret (v := .agg (bs R)) (results_cell_row rfl _ _ (w.heap.size + 1) 23 (bs R) (0, 0) _ rfl (M0.row 1 rfl) Try.underlying23 rfl (kinfo R LR.out)) rfl ⟨rfl, M0.below⟩
end Go.Proofs.Ytdikkdediofieaa
