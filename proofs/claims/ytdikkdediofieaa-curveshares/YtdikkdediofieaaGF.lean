/- causeyref06.Place, Key, Inv: walked. -/
import Derived.Test.YtdikkdediofieaaGD
import Derived.Test.YtdikkdediofieaaGE
namespace Go.Proofs.Ytdikkdediofieaa
open Go.RowKit
def kz8 : Array Value := bs (List.replicate 32 0)
theorem k8info (l : List UInt8) (h : l.length = 32) : (Try.prog.info? 22).map (·.size) = some (bs l).size := by
  rw [bs_size, h]; exact (by kernel_rfl : (Try.prog.info? 22).map (·.size) = some 32)
theorem kz8_size (l : List UInt8) (h : l.length = 32) : kz8.size = (bs l).size := by unfold kz8; rw [bs_size, bs_size, h]; rfl
set_option maxHeartbeats 1000000 in
theorem cplace_any (K : List UInt8) (hK : K.length = 32) (w : World) :
    Calls Try.prog 16 #[.agg (bs K)] w fun e w' => e = .returned (.agg (de (placeN K))) ∧ Below w.heap.size w w' := by
  have M0 : Mem w [(w.heap.size, 22, bs K), (w.heap.size + 1, 30, z32i)] ((w.alloc (.cells (bs K) 22)).alloc (.cells z32i 30)) :=
    ((Mem.init w).alloc _ rfl _ _).alloc _ (by simp) _ _
  obtain ⟨X, hX⟩ : ∃ X, X = K.map UInt8.toNat := ⟨_, rfl⟩
  have dX : Dig 256 X := by rw [hX]; exact bytes_dig K
  have lX : X.length = 32 := by rw [hX, List.length_map, hK]
  have gX : ∀ j, j < 32 → X.getD j 0 = (K.getD j 0).toNat := fun j hj => by
    rw [hX, List.getD_eq_getElem?_getD, List.getElem?_map, List.getD_eq_getElem?_getD, List.getElem?_eq_getElem (by omega)]
    rfl
  have hlow := lowC X dX (by omega)
  rw [List.take_of_length_le (by omega)] at hlow
  have hR : dg 256 (num 256 (X.set 31 (X.getD 31 0 % 128)) % 57896044618658097711785492504343953926634992332820282019728792003956564819949) 32 = dg 256 (placeN K) 32 := by rw [hlow, hX]; rfl
  have lR := dg_length 256 (placeN K) 32
  unfold de
  generalize dg 256 (placeN K) 32 = R at *
  have HX := Lib.hid (And.intro dX (And.intro lX gX))
  have HR := Lib.hid (And.intro hR lR)
  have HK := Lib.hid hK
  clear dX lX gX hR lR hlow hX hK
  go_enter Try.func16, Try.ntmps16
  go_upto_region 1 with fail
  change Code.wp _ _ _ _ ((w.alloc (.cells (bs K) 22)).alloc (.cells z32i 30))
  generalize (w.alloc (.cells (bs K) 22)).alloc (.cells z32i 30) = v at M0 ⊢
  have MV := Lib.hid M0
  clear M0
  go_wp2_with fail
  go_loopw [3, 4] (fun lv iv wr => ∃ (j : Nat) (a : Option Addr) (cap : Nat), j ≤ 32 ∧ iv = .int .i64 (j : Int) ∧ lv = .slice a j cap ∧ Ow v.heap.size wr (.slice a j cap) (X.take j) ∧ Below v.heap.size v wr) (fun _ iv _ => 32 - (intOf iv).toNat)
  case atStart => exact ⟨0, _, _, by omega, rfl, rfl, Ow.nil _ _, Below.refl _ _⟩
  case round =>
    obtain ⟨j, ah, caph, hj, rfl, rfl, how, hb⟩ := hrel
    have hlT : (X.take j).length = j := by rw [List.length_take, HX.out.2.1]; omega
    by_cases hlt : j < 32
    · have t1 : decide ((j : Int) < 32) = true := by simp; omega
      have c1 := ((MV.out.step hb).row 0 rfl).byte j (by rw [HK.out]; omega)
      have htk := take_getD X j (by rw [HX.out.2.1]; omega)
      rw [HX.out.2.2 j hlt] at htk
      generalize K.getD j 0 = b at c1 htk
      generalize X.take j = T at htk hlT how
      have hle : (T ++ [b.toNat]).length = j + 1 := by rw [List.length_append, hlT]; rfl
      have HOW := Lib.hid how
      have HBH := Lib.hid hb
      have HTK := Lib.hid htk
      have HLE := Lib.hid hle
      have HLT := Lib.hid hlT
      have hb8 := b.toNat_lt
      clear how hb htk hle hlT
      go_wp2_with (at_builtin; refine wpList_app1 rfl (.tmp 9) (.tmp 14) rfl rfl (HOW.out.alloc _) wr.heap.size 1 b.toNat rfl ((Has.fresh wr 3 #[I64 b.toNat]).cell 0) (by rw [HLT.out]; omega) (by simp; have := HBH.out.size; omega) ?_; intro v2 w2 hown2 hb2; obtain ⟨a2, cap2, hv2⟩ := hown2.form; rw [hv2] at hown2 ⊢; rw [HLE.out] at hown2 ⊢)
      go_roundw
      case rel => exact ⟨j + 1, a2, cap2, by omega, by go_num, rfl, by rw [HTK.out]; exact hown2, (HBH.out.alloc HBH.out.size _).trans hb2⟩
      case measure => simp [intOf]; omega
    · have hj32 : j = 32 := by omega
      subst hj32
      rw [show (((32 : Nat) : Int)) = 32 from rfl]
      have t1 : decide ((32 : Int) < 32) = false := by decide
      rw [List.take_of_length_le (by rw [HX.out.2.1]; omega)] at how hlT
      obtain ⟨gx, capx, hvx, hgx0, hgx, hcx, cellX, frX⟩ := how.parts (by omega)
      rw [hlT] at hvx hcx
      injection hvx with e1 e2 e3
      subst e1 e3
      have c1 := cellX 31 (by omega)
      have f1 := frX 31
      have hrem : (X.getD 31 0 : Int).tmod 128 = ((X.getD 31 0 % 128 : Nat) : Int) := tmodI _ 128
      have how1 := how
      rw [← hlT] at how1
      have how2 := how1.put 31 (X.getD 31 0 % 128)
      have hb2 := hb.setCell (p := ⟨gx, 31, none⟩) hgx0 (I64 (X.getD 31 0 % 128))
      have hl2 : (X.set 31 (X.getD 31 0 % 128)).length = 32 := by rw [List.length_set, hlT]
      have hd2 : Dig 256 (X.set 31 (X.getD 31 0 % 128)) := HX.out.1.set 31 (by omega)
      have hr2 := HR.out.1
      have hrd := how2.rd
      rw [hlT] at hrd
      generalize X.set 31 (X.getD 31 0 % 128) = X' at *
      generalize X.getD 31 0 % 128 = y at *
      generalize X.getD 31 0 = x at *
      clear how how1 how2 cellX frX
      go_upto_region 7 with fail
      change Code.wp _ _ _ _ (wr.setCell ⟨gx, 31, none⟩ (I64 y))
      generalize wr.setCell ⟨gx, 31, none⟩ (I64 y) = w3 at hrd hb2 ⊢
      have M := MV.out.step hb2
      have p1 := crest_any X' hd2 (by omega) (by omega) _ w3 hrd
      rw [hr2] at p1
      have P1 := Lib.hid p1
      clear p1 hrd hd2 hr2 hl2 c1 f1 hb hgx MV hb2
      go_wp2_with fail
      go_at_call 26
      refine P1.out.mono ?_
      rintro e w9 ⟨rfl, hb1⟩
      replace M := M.step hb1
      clear hb1 P1 w3
      have r2 := M.row 1 rfl
      have lR := HR.out.2
      go_wp2_with (refine wpList_store_row rfl 30 (.tmp 2) (.tmp 23) rfl (w.heap.size + 1) (is R) rfl rfl 30 z32i r2 (infoD R lR) (z32i_size R lR) (is_one _) ?_)
      replace M := M.store 1 rfl (is R)
      simp only [List.set_cons_zero, List.set_cons_succ] at M
      exact bodyPost_ret (v := .agg (is R)) (results_cell_row rfl _ _ (w.heap.size + 1) 30 (is R) (0, 0) _ rfl (M.row 1 rfl) Try.underlying30 rfl (infoD R lR)) rfl ⟨rfl, M.below⟩
set_option maxHeartbeats 1000000 in
theorem ckey_any (n : Nat) (w : World) :
    Calls Try.prog 17 #[.agg (de n)] w fun e w' => e = .returned (.agg (bs (lowB n 32))) ∧ Below w.heap.size w w' := by
  have M0 : Mem w [(w.heap.size, 30, de n), (w.heap.size + 1, 22, kz8), (w.heap.size + 1 + 1, 22, bs ((lowB n 32).take 0 ++ List.replicate (32 - 0) 0))] (((w.alloc (.cells (de n) 30)).alloc (.cells kz8 22)).alloc (.cells (bs (List.replicate 32 0)) 22)) :=
    (((Mem.init w).alloc _ rfl _ _).alloc _ (by simp) _ _).alloc _ (by simp) _ _
  have lz := lowB_length n 32
  have ld := dg_length 256 n 32
  have hg : ∀ i, i < 32 → (dg 256 n 32).getD i 0 = ((lowB n 32).getD i 0).toNat := fun i h => by
    rw [lowB_getD n 32 i h, dg_getD 256 n 32 i h, UInt8.toNat_ofNat']
    exact (Nat.mod_mod _ 256).symm
  unfold de at M0 ⊢
  generalize lowB n 32 = zs at *
  generalize dg 256 n 32 = D at *
  have HZ := Lib.hid lz
  have HG := Lib.hid (And.intro hg ld)
  clear lz hg ld
  go_enter Try.func17, Try.ntmps17
  go_upto_region 2 with fail
  change Code.wp _ _ _ _ (((w.alloc (.cells (is D) 30)).alloc (.cells kz8 22)).alloc (.cells (bs (List.replicate 32 0)) 22))
  generalize ((w.alloc (.cells (is D) 30)).alloc (.cells kz8 22)).alloc (.cells (bs (List.replicate 32 0)) 22) = w0 at M0 ⊢
  go_wp2
  go_loopw [4] (fun i wr => ∃ j : Nat, j ≤ 32 ∧ i = .int .i64 (j : Int) ∧ Mem w [(w.heap.size, 30, is D), (w.heap.size + 1, 22, kz8), (w.heap.size + 1 + 1, 22, bs (zs.take j ++ List.replicate (32 - j) 0))] wr) (fun i _ => 32 - (intOf i).toNat)
  case atStart => exact ⟨0, by omega, rfl, M0⟩
  case round =>
    clear M0 w0
    obtain ⟨j, hj, rfl, M⟩ := hrel
    by_cases hlt : j < 32
    · have hb : decide ((j : Int) < 32) = true := by simp; omega
      have c1 := (M.row 0 rfl).i64 j (by rw [HG.out.2]; omega)
      rw [HG.out.1 j hlt] at c1
      have c2 := (M.row 2 rfl).byte j (by rw [padB_length _ _ _ (by rw [HZ.out]; omega) (by omega)]; omega)
      have f2 := (M.row 2 rfl).frozen j
      generalize (zs.take j ++ List.replicate (32 - j) 0).getD j 0 = old at c2
      have M' := M.setCell 2 rfl j (B8 (zs.getD j 0))
      simp only [List.set_cons_zero, List.set_cons_succ] at M'
      rw [bs_set, padB_set zs 32 j (by rw [HZ.out]; omega) hlt] at M'
      have hjl : ¬ ((32 : Int) ≤ (j : Int)) := by omega
      have hb8 := (zs.getD j 0).toNat_lt
      generalize zs.getD j 0 = b at *
      clear M
      go_wp2
      go_roundw
      case rel => exact ⟨j + 1, by omega, by go_num, M'⟩
      case measure => simp [intOf]; omega
    · have hj32 : j = 32 := by omega
      subst hj32
      rw [show (((32 : Nat) : Int)) = 32 from rfl]
      have hb : decide ((32 : Int) < 32) = false := by decide
      rw [List.take_of_length_le (by rw [HZ.out]; omega), Nat.sub_self, List.replicate_zero, List.append_nil] at M
      have r2 := M.row 2 rfl
      have r1 := M.row 1 rfl
      have lz := HZ.out
      go_wp2_with (first
        | (refine wpList_load_row rfl 22 (.tmp 3) rfl (w.heap.size + 1 + 1) rfl 22 (bs zs) (0, 0) _ r2 Try.underlying22 rfl (k8info zs lz) ?_)
        | (refine wpList_store_row rfl 22 (.tmp 2) (.tmp 15) rfl (w.heap.size + 1) (bs zs) rfl rfl 22 kz8 r1 (k8info zs lz) (kz8_size zs lz) (bs_one _) ?_))
      replace M := M.store 1 rfl (bs zs)
      simp only [List.set_cons_zero, List.set_cons_succ] at M
      exact bodyPost_ret (v := .agg (bs zs)) (results_cell_row rfl _ _ (w.heap.size + 1) 22 (bs zs) (0, 0) _ rfl (M.row 1 rfl) Try.underlying22 rfl (k8info zs lz)) rfl ⟨rfl, M.below⟩
/-- an element is laid digit by digit -/
theorem build_de {o : Oper} {ev : Operand → Value} {w : World} (parts : Array (Nat × Operand)) (n : Nat) (ho : o.op = .build 30 parts) (hf : Try.prog.built 30 (parts.map fun (i, x) => (i, ev x)).toList = some (de n)) : (execOp ev o).run Try.prog w = .ok (.value (.agg (de n))) w := by
  unfold execOp
  simp only [ho, Sem.run_bind, run_build w 30 _ _ hf, Result.andThen_ok, Sem.run_pure]
set_option maxHeartbeats 2000000 in
theorem cinv_any (X : Nat) (hX : X < 57896044618658097711785492504343953926634992332820282019728792003956564819949) (w : World) :
    Calls Try.prog 19 #[.agg (de X)] w fun e w' => e = .returned (.agg (de (finv X))) ∧ Below w.heap.size w w' := by
  have M0 : Mem w [(w.heap.size, 30, de X), (w.heap.size + 1, 30, z32i)] ((w.alloc (.cells (de X) 30)).alloc (.cells z32i 30)) :=
    ((Mem.init w).alloc _ rfl _ _).alloc _ (by simp) _ _
  obtain ⟨R, hR⟩ : ∃ R, R = finv X := ⟨_, rfl⟩
  rw [← hR]
  have hr0 : invF X 255 1 = R := hR.symm
  have HR := Lib.hid hr0
  clear hR hr0
  go_enter Try.func19, Try.ntmps19
  go_upto_region 1 with fail
  change Code.wp _ _ _ _ ((w.alloc (.cells (de X) 30)).alloc (.cells z32i 30))
  generalize (w.alloc (.cells (de X) 30)).alloc (.cells z32i 30) = w0 at M0 ⊢
  refine wp_region_noPanic ?_
  refine wp_region_flow_text (fin := ?fin1) 2 1 (by kernel_rfl) [.inl (.agg (de 1)),
    .inr (30, z32i)] rfl rfl (by kernel_rfl) ?hfin1 ?hE1 ?hend1
  case hfin1 =>
    intro G
    simp only [flowAll, flowVal, Act.put, List.setIfInBounds_toArray, List.set_cons_zero, List.set_cons_succ]
    exact rfl
  case hE1 =>
    intro G
    refine ⟨Or.inr (fun W hB => known_val rfl (by exact build_de _ 1 rfl (by kernel_rfl))),
      ⟨rfl, fun W => alloc_de rfl⟩, trivial⟩
  intro G W hB hM
  replace M0 := M0.made hB hM 1 rfl rfl
  simp only [List.cons_append, List.nil_append] at M0
  generalize G 1 = g3 at M0 ⊢
  clear hB hM G w0
  refine only0 2 (W.setRow g3 (de 1)) _ (by kernel_rfl) rfl rfl rfl (store_de (.tmp 3) (.tmp 5) g3 1 (M0.row 2 rfl) (de_z 1) rfl rfl rfl) ?_
  replace M0 := M0.store 2 rfl (de 1)
  simp only [List.set_cons_zero, List.set_cons_succ] at M0
  generalize W.setRow g3 (de 1) = w0 at M0 ⊢
  simp only [Act.put]
  refine wpAny_end (by kernel_rfl) ?_ _
  refine NoPanic.normal ?_
  clear W
  go_wp2
  go_loopw [4] (fun i wr => ∃ (k o : Nat), k ≤ 255 ∧ i = .int .i64 ((k : Int) - 1) ∧ o < 57896044618658097711785492504343953926634992332820282019728792003956564819949 ∧ invF X k o = R ∧ Mem w [(w.heap.size, 30, de X), (w.heap.size + 1, 30, z32i), (g3, 30, de o)] wr) (fun i _ => (intOf i + 1).toNat)
  case atStart => exact ⟨255, 1, by omega, rfl, by omega, HR.out, M0⟩
  case round =>
    clear M0 w0
    obtain ⟨k, o, hk, rfl, ho, hr, M⟩ := hrel
    cases k with
    | zero =>
      obtain rfl : o = R := hr
      have hb : decide ((0 : Int) ≤ ((0 : Nat) : Int) - 1) = false := by decide
      have r3 := M.row 2 rfl
      have r2 := M.row 1 rfl
      go_wp2_with (first
        | (refine wpList_load_row rfl 30 (.tmp 3) rfl g3 rfl 30 (de o) (0, 0) _ r3 Try.underlying30 rfl (de_info o) ?_)
        | (refine wpList_store_row rfl 30 (.tmp 2) (.tmp 22) rfl (w.heap.size + 1) (de o) rfl rfl 30 z32i r2 (de_info o) (de_z o) (is_one _) ?_))
      replace M := M.store 1 rfl (de o)
      simp only [List.set_cons_zero, List.set_cons_succ] at M
      exact bodyPost_ret (v := .agg (de o)) (results_cell_row rfl _ _ (w.heap.size + 1) 30 (de o) (0, 0) _ rfl (M.row 1 rfl) Try.underlying30 rfl (de_info o)) rfl ⟨rfl, M.below⟩
    | succ j =>
      have e1 : ((j + 1 : Nat) : Int) - 1 = (j : Int) := by omega
      rw [e1]
      clear e1
      have hb : decide ((0 : Int) ≤ (j : Int)) = true := by simp
      have s1 := ctimes_any o o ho ho
      have l1 := fmul_lt o o
      have hv : invF X j (if j ≠ 2 ∧ j ≠ 4 then fmul (fmul o o) X else fmul o o) = R := hr
      generalize fmul o o = q at s1 l1 hv
      have p1 := ctimes_any q X l1 hX
      have l2 := fmul_lt q X
      generalize fmul q X = p at p1 l2 hv
      have S1 := Lib.hid s1
      have P1 := Lib.hid p1
      clear s1 p1 hr ho
      by_cases hj : j ≠ 2 ∧ j ≠ 4
      · rw [if_pos hj] at hv
        have HV := Lib.hid hv
        clear hv
        have t1 : ((j : Int) == 2) = false := by simp; omega
        have t2 : ((j : Int) == 4) = false := by simp; omega
        have t3 : ((j : Int) != 2) = true := by simp; omega
        have t4 : ((j : Int) != 4) = true := by simp; omega
        have r3 := M.row 2 rfl
        go_wp2_with (refine wpList_load_row rfl 30 (.tmp 3) rfl g3 rfl 30 (de o) (0, 0) _ r3 Try.underlying30 rfl (de_info o) ?_)
        go_at_call 18
        refine (S1.out _).mono ?_
        rintro e W1 ⟨rfl, hb1⟩
        clear r3 S1
        replace M := M.step hb1
        clear hb1
        have r3 := M.row 2 rfl
        go_upto_region 7 with (refine wpList_store_row rfl 30 (.tmp 3) (.tmp 12) rfl g3 (de q) rfl rfl 30 (de o) r3 (de_info q) (de_size _ _) (is_one _) ?_)
        clear r3
        replace M := M.store 2 rfl (de q)
        simp only [List.set_cons_zero, List.set_cons_succ] at M
        generalize W1.setRow g3 (de q) = W2 at M ⊢
        clear W1
        have r3 := M.row 2 rfl
        have r1 := M.row 0 rfl
        go_wp2_with (first
          | (refine wpList_load_row rfl 30 (.tmp 3) rfl g3 rfl 30 (de q) (0, 0) _ r3 Try.underlying30 rfl (de_info q) ?_)
          | (refine wpList_load_row rfl 30 (.tmp 1) rfl w.heap.size rfl 30 (de X) (0, 0) _ r1 Try.underlying30 rfl (de_info X) ?_))
        go_at_call 18
        refine (P1.out _).mono ?_
        rintro e W3 ⟨rfl, hb1⟩
        clear r3 r1 P1
        replace M := M.step hb1
        clear hb1
        have r3 := M.row 2 rfl
        go_upto_region 4 with (refine wpList_store_row rfl 30 (.tmp 3) (.tmp 21) rfl g3 (de p) rfl rfl 30 (de q) r3 (de_info p) (de_size _ _) (is_one _) ?_)
        clear r3
        replace M := M.store 2 rfl (de p)
        simp only [List.set_cons_zero, List.set_cons_succ] at M
        generalize W3.setRow g3 (de p) = W4 at M ⊢
        clear W3 t1 t2 t3 t4
        go_wp2
        go_roundw
        case rel => exact ⟨j, p, by omega, rfl, l2, HV.out, M⟩
        case measure => simp [intOf]
      · rw [if_neg hj] at hv
        have HV := Lib.hid hv
        clear hv P1
        have t2 : j = 2 ∨ j = 4 := by omega
        clear hj
        rcases t2 with rfl | rfl
        · rw [show (((2 : Nat) : Int)) = 2 from rfl]
          have r3 := M.row 2 rfl
          go_wp2_with (refine wpList_load_row rfl 30 (.tmp 3) rfl g3 rfl 30 (de o) (0, 0) _ r3 Try.underlying30 rfl (de_info o) ?_)
          go_at_call 18
          refine (S1.out _).mono ?_
          rintro e W1 ⟨rfl, hb1⟩
          clear r3 S1
          replace M := M.step hb1
          clear hb1
          have r3 := M.row 2 rfl
          go_upto_region 4 with (refine wpList_store_row rfl 30 (.tmp 3) (.tmp 12) rfl g3 (de q) rfl rfl 30 (de o) r3 (de_info q) (de_size _ _) (is_one _) ?_)
          clear r3
          replace M := M.store 2 rfl (de q)
          simp only [List.set_cons_zero, List.set_cons_succ] at M
          generalize W1.setRow g3 (de q) = W2 at M ⊢
          clear W1
          go_wp2
          go_roundw
          case rel => exact ⟨2, q, by omega, rfl, l1, HV.out, M⟩
          case measure => simp [intOf]
        · rw [show (((4 : Nat) : Int)) = 4 from rfl]
          have r3 := M.row 2 rfl
          go_wp2_with (refine wpList_load_row rfl 30 (.tmp 3) rfl g3 rfl 30 (de o) (0, 0) _ r3 Try.underlying30 rfl (de_info o) ?_)
          go_at_call 18
          refine (S1.out _).mono ?_
          rintro e W1 ⟨rfl, hb1⟩
          clear r3 S1
          replace M := M.step hb1
          clear hb1
          have r3 := M.row 2 rfl
          go_upto_region 4 with (refine wpList_store_row rfl 30 (.tmp 3) (.tmp 12) rfl g3 (de q) rfl rfl 30 (de o) r3 (de_info q) (de_size _ _) (is_one _) ?_)
          clear r3
          replace M := M.store 2 rfl (de q)
          simp only [List.set_cons_zero, List.set_cons_succ] at M
          generalize W1.setRow g3 (de q) = W2 at M ⊢
          clear W1
          go_wp2
          go_roundw
          case rel => exact ⟨4, q, by omega, rfl, l1, HV.out, M⟩
          case measure => simp [intOf]
end Go.Proofs.Ytdikkdediofieaa
