/- tun's join of a new text: walked. -/
import Derived.Test.YthpbhimmfmablaaTUW
namespace Go.Proofs.Ythpbhimmfmablaa
open Go.RowKit
set_option maxRecDepth 20000 in
set_option maxHeartbeats 1000000 in
theorem join_new_more {B jb : Nat} {mb : Option Nat} {W : World} {ov : Value} {l : List TX} (J : JInv B W jb mb ov l) (hB : B ≤ W.heap.size) (n c p : Nat) (b : ByteArray) (hn : n < 4294967296) (hc1 : 1 ≤ c) (hc3 : c ≤ 3) (hpc : p < c) (hb : b.size ≤ 512) (hnew : ∀ u, u ∈ l → u.n ≠ n) (hcc : 1 < c) :
    Calls Try.prog 26 #[.pointer (some ⟨jb, 0, none⟩), .agg (pv n c p b)] W fun e W' => ∃ m' ov' pb', e = .returned (.tuple #[.string ⟨#[]⟩, .bool false, .int .i64 0]) ∧ JInv B W' jb (some m') ov' (roomL l ++ [⟨n, c, pb', (List.replicate c none).set p (some b)⟩]) ∧ Kp (foot jb mb ov l) W W' ∧ (∀ g, g ∈ foot jb (some m') ov' (roomL l ++ [⟨n, c, pb', (List.replicate c none).set p (some b)⟩]) → g ∈ foot jb mb ov l ∨ W.heap.size ≤ g) := by
  have M : Mem W [(W.heap.size, 66, pv n c p b)] (W.alloc (.cells (pv n c p b) 66)) := (Mem.init W).alloc _ rfl _ _
  have hlk : (txF l n).getD (.agg tz) = .agg tz ∧ (txF l n).isSome = false := by
    rw [txF_none hnew]
    exact ⟨rfl, rfl⟩
  have HLK := Lib.hid hlk
  clear hlk
  go_enter Try.func26, Try.ntmps26
  go_upto_region 1 with fail
  change Code.wp _ _ _ _ (W.alloc (.cells (pv n c p b) 66))
  generalize W.alloc (.cells (pv n c p b) 66) = W0 at M ⊢
  refine wp_region_noPanic ?_
  refine wp_region_held_drew (S := fun w' => Below W0.drew.heap.size W0.drew w') (by kernel_rfl) (Below.refl _ _) (fun hS => ?_)
  refine take1 hS 0 12 (.pointer (some ⟨jb, 0, none⟩)) _ rfl (by kernel_rfl) (by kernel_rfl) (by kernel_rfl) (fun _ _ _ h => h) rfl rfl (fun w' h => by go_simp) ?_
  simp only [Act.put, List.setIfInBounds_toArray, List.set_cons_zero, List.set_cons_succ]
  refine take1 hS 1 13 (.pointer (some ⟨jb, 0, none⟩)) _ rfl (by kernel_rfl) (by kernel_rfl) (by kernel_rfl) (fun _ _ _ h => h) rfl rfl (fun w' h => by go_simp) ?_
  simp only [Act.put, List.setIfInBounds_toArray, List.set_cons_zero, List.set_cons_succ]
  refine take1 hS 2 14 (.pointer (some ⟨jb, 0, none⟩)) _ rfl (by kernel_rfl) (by kernel_rfl) (by kernel_rfl) (fun _ _ _ h => h) rfl rfl (fun w' h => by go_simp) ?_
  simp only [Act.put, List.setIfInBounds_toArray, List.set_cons_zero, List.set_cons_succ]
  refine take1 hS 3 15 (.map mb) _ rfl (by kernel_rfl) (by kernel_rfl) (by kernel_rfl) (fun _ _ _ h => h) rfl rfl (fun w' h => by have cc := (J.step ((M.drew.step h).below)).cell.cell 0; go_simp) ?_
  simp only [Act.put, List.setIfInBounds_toArray, List.set_cons_zero, List.set_cons_succ]
  refine take1 hS 4 16 (.pointer (some ⟨W.heap.size, 0, none⟩)) _ rfl (by kernel_rfl) (by kernel_rfl) (by kernel_rfl) (fun _ _ _ h => h) rfl rfl (fun w' h => by go_simp) ?_
  simp only [Act.put, List.setIfInBounds_toArray, List.set_cons_zero, List.set_cons_succ]
  refine take1 hS 5 17 (V64 n) _ rfl (by kernel_rfl) (by kernel_rfl) (by kernel_rfl) (fun _ _ _ h => h) rfl rfl (fun w' h => by have cc := ((M.drew.step h).row 0 rfl).cell 0; go_simp) ?_
  simp only [Act.put, List.setIfInBounds_toArray, List.set_cons_zero, List.set_cons_succ]
  refine take1 hS 6 18 (.tuple #[.agg tz, .bool false]) _ rfl (by kernel_rfl) (by kernel_rfl) (by kernel_rfl) (fun _ _ _ h => h) rfl rfl (fun w' h => by exact exec_texts (J.step ((M.drew.step h).below)) n hn (.tmp 15) (.tmp 17) rfl rfl rfl _ _ HLK.out.1 HLK.out.2) ?_
  simp only [Act.put, List.setIfInBounds_toArray, List.set_cons_zero, List.set_cons_succ]
  refine take1 hS 7 11 (.tuple #[.agg tz, .bool false]) _ rfl (by kernel_rfl) (by kernel_rfl) (by kernel_rfl) (fun _ _ _ h => h) rfl rfl (fun w' h => by go_simp) ?_
  simp only [Act.put, List.setIfInBounds_toArray, List.set_cons_zero, List.set_cons_succ]
  refine take1 hS 8 19 (.agg tz) _ rfl (by kernel_rfl) (by kernel_rfl) (by kernel_rfl) (fun _ _ _ h => h) rfl rfl (fun w' h => by go_simp) ?_
  simp only [Act.put, List.setIfInBounds_toArray, List.set_cons_zero, List.set_cons_succ]
  refine take1 hS 9 20 (.bool false) _ rfl (by kernel_rfl) (by kernel_rfl) (by kernel_rfl) (fun _ _ _ h => h) rfl rfl (fun w' h => by go_simp) ?_
  simp only [Act.put, List.setIfInBounds_toArray, List.set_cons_zero, List.set_cons_succ]
  have hS1 : Below W0.drew.heap.size W0.drew (W0.drew.alloc (.cells tz 80)) := (Below.refl _ _).alloc (Nat.le_refl _) _
  have M1 := M.drew.alloc _ rfl 80 tz
  simp only [List.cons_append, List.nil_append] at M1
  refine onlyVal 10 7 (.pointer (some ⟨W0.drew.heap.size, 0, none⟩)) (W0.drew.alloc (.cells tz 80)) _ (by kernel_rfl) rfl rfl rfl (alloc_text rfl) hS1 ?_
  simp only [Act.put, List.setIfInBounds_toArray, List.set_cons_zero, List.set_cons_succ]
  have hS2 := below_setRow hS1 (g := W0.drew.heap.size) (Nat.le_refl _) tz
  obtain ⟨gT, hgTd⟩ : ∃ gT, W0.drew.heap.size = gT := ⟨_, rfl⟩
  rw [hgTd] at M1 hS2
  generalize W0.drew.alloc (.cells tz 80) = V0 at M1 hS1 hS2 ⊢
  rw [hgTd]
  refine onlySkip 11 (V0.setRow gT tz) _ (by kernel_rfl) rfl rfl rfl (exec_store_row (P := Try.prog) 80 (.tmp 7) (.tmp 19) gT tz (M1.row 1 rfl) text_sizeZ rfl (text_one0) rfl rfl rfl) hS2 ?_
  simp only [Act.put]
  have M := M1.store 1 rfl tz
  simp only [List.set_cons_zero, List.set_cons_succ] at M
  generalize V0.setRow gT tz = V at M hS2 ⊢
  clear M1 hS1 hS
  refine onlyVal 12 8 (.bool false) V _ (by kernel_rfl) rfl rfl rfl (by go_simp) hS2 ?_
  simp only [Act.put, List.setIfInBounds_toArray, List.set_cons_zero, List.set_cons_succ]
  clear hS2 hgTd
  refine wpAnyH_done (by kernel_rfl) ?_ _
  refine NoPanic.normal ?_
  have c0 := (M.row 0 rfl).cell 1
  have c1 := (M.row 1 rfl).cell 1
  have HM := Lib.hid M
  clear M
  go_upto_region 8 with (first
    | (refine wpExec rfl (.tuple #[.agg pz, .bool false]) (exec_nilOk Try.underlying3 _ map_pieces (zero_piece _) p (wf_p (by omega)) (.tmp 31) (.tmp 33) rfl rfl rfl) ?_)
    | fail)
  have M := HM.out.alloc _ rfl 66 pz
  simp only [List.cons_append, List.nil_append] at M
  clear c0 c1 HM
  change Code.wp _ _ _ _ (V.alloc (.cells pz 66))
  generalize V.alloc (.cells pz 66) = V at M ⊢
  have c0 := (M.row 0 rfl).cell 0
  have c2 := (M.row 0 rfl).cell 2
  have hbg := begin_any (J.step M.below) (by have := M.below.size; omega) n c hn hc1 hc3 hnew
  have HBG := Lib.hid hbg
  have HM := Lib.hid M
  clear hbg M
  go_wp2_with fail
  refine HBG.out.mono ?_
  rintro e Vb ⟨m, ov', pb, rfl, Jb, kb, fb⟩
  clear c0 c2 HBG
  have M := HM.out
  clear HM
  have hlt0 := J.lt
  have hgT : W.heap.size ≤ gT := M.own 1 _ rfl
  have hgT2 : gT < V.heap.size := (M.row 1 rfl).lt
  have hP2 : W.heap.size < V.heap.size := (M.row 0 rfl).lt
  have hneT : gT ≠ W.heap.size := fun e => M.apart 1 0 _ _ rfl rfl (by omega) e
  have Pb := (M.row 0 rfl).kp kb (fun h => by have := hlt0 _ h; omega)
  have Tb := (M.row 1 rfl).kp kb (fun h => by have := hlt0 _ h; omega)
  have kr := Kp.of_row Vb gT (tv c pb)
  have hF : ∀ g, g ∈ foot jb (some m) ov' (roomL l ++ [newT n c pb]) → g ∈ foot jb mb ov l ∨ V.heap.size ≤ g := fb
  have HV := Lib.hid (And.intro (Jb.kp kr (fun g hg => by
    simp
    rcases hF g hg with h | h
    · have := hlt0 g h; omega
    · omega)) (And.intro (Pb.kp kr (by simp; exact fun e => hneT e.symm)) (Tb.setRow (tv c pb))))
  have HN : Hid ((∀ g, g ∈ foot jb (some m) ov' (roomL l ++ [newT n c pb]) → g ≠ W.heap.size) ∧ (∀ g, g ∈ foot jb (some m) ov' (roomL l ++ [newT n c pb]) → g ≠ gT) ∧ gT ≠ W.heap.size) :=
    ⟨fun g hg => by
      rcases hF g hg with h | h
      · have := hlt0 g h; omega
      · omega, fun g hg => by
      rcases hF g hg with h | h
      · have := hlt0 g h; omega
      · omega, hneT⟩
  have KV : Kp (foot jb mb ov l) W (Vb.setRow gT (tv c pb)) := ((Kp.of_below (foot jb mb ov l) M.below).trans kb (fun g hg _ => hg)).trans kr (fun g hg hlt => by simp at hg; omega)
  have HF := Lib.hid hF
  have hVW : W.heap.size ≤ V.heap.size := by omega
  clear M hlt0 hgT hgT2 hP2 hneT Pb kb kr hF fb Jb
  go_upto_region 9 with (first
    | (refine wpList_store_row rfl 80 (.tmp 7) (.tmp 45) rfl gT (tv c pb) rfl rfl 80 tz Tb text_size rfl (text_one _ _) ?_)
    | fail)
  clear Tb
  generalize Vb.setRow gT (tv c pb) = V at HV KV ⊢
  obtain ⟨L, hL⟩ : ∃ L, roomL l ++ [newT n c pb] = L := ⟨_, rfl⟩
  obtain ⟨i, hid⟩ : ∃ i, (roomL l).length = i := ⟨_, rfl⟩
  have hi : i < L.length := by rw [← hL, ← hid]; simp
  have hLi : L[i] = newT n c pb := by
    subst hL
    subst hid
    rw [List.getElem_append_right (Nat.le_refl _)]
    simp
  have hLset : L.set i ((L[i]).put p b) = roomL l ++ [⟨n, c, pb, (List.replicate c none).set p (some b)⟩] := by
    rw [hLi, ← hL, ← hid, List.set_append_right _ _ (Nat.le_refl _), Nat.sub_self]
    rfl
  have hLer : L.eraseIdx i = roomL l := by
    rw [← hL, ← hid, List.eraseIdx_append_of_length_le (Nat.le_refl _), Nat.sub_self]
    simp
  have hx : (L[i]).ps.getD p none = none := by
    rw [hLi]
    show (List.replicate c (none : Option ByteArray)).getD p none = none
    rw [List.getD_eq_getElem?_getD, List.getElem?_replicate]
    split <;> rfl
  have hcnt0 : (L[i]).cnt = 0 := by rw [hLi]; exact newT_cnt n c pb
  rw [hL] at HV HN HF
  have HH : Hid ((L[i]).c = c ∧ (L[i]).pb = pb ∧ (L[i]).n = n) := by rw [hLi]; exact ⟨rfl, rfl, rfl⟩
  have hpsL : (L[i]).ps = List.replicate c none := by rw [hLi]
  have HL := Lib.hid (And.intro hLset (And.intro hLer hpsL))
  clear hLset hLer hpsL hL hid hLi
  have hcn : (L[i]).cnt + 1 < c := by omega
  have hcl := fun W => clone_any b (by omega) W
  have HCL := Lib.hid hcl
  clear hcl
  have c3 : V.cell? ⟨W.heap.size, 3, none⟩ = some (.string b) := by rw [HV.out.2.1.cell]; rfl
  go_wp2_with fail
  refine (HCL.out _).mono ?_
  rintro e V1 ⟨rfl, hb1⟩
  have P1 := Has.below HV.out.2.1 hb1 HV.out.2.1.lt
  have T1 := Has.below HV.out.2.2 hb1 HV.out.2.2.lt
  have J1 := HV.out.1.step hb1
  have c3 : V1.cell? ⟨W.heap.size, 3, none⟩ = some (.string b) := by rw [P1.cell]; rfl
  have f3 := P1.frozen 3
  have P2 := P1.set 3 (.string b)
  have k2 := Kp.of_set V1 W.heap.size 3 (.string b)
  have T2 := T1.kp k2 (by simp; exact HN.out.2.2)
  have J2 := J1.kp k2 (fun g hg => by simp; exact HN.out.1 g hg)
  have K2 : Kp [W.heap.size] V (V1.setCell ⟨W.heap.size, 3, none⟩ (.string b)) := (Kp.of_below [W.heap.size] hb1).trans k2 (fun _ h _ => h)
  have HV2 := Lib.hid (And.intro J2 (And.intro P2 (And.intro T2 K2)))
  clear P1 T1 J1 k2 P2 T2 J2 K2 hb1 HCL
  go_upto_region 10 with fail
  clear c3 f3
  obtain ⟨J2, P2, T2, K2⟩ := HV2.out
  clear HV2 HV
  generalize V1.setCell ⟨W.heap.size, 3, none⟩ (.string b) = V2 at J2 P2 T2 K2 ⊢
  have P2' : Has V2 W.heap.size 66 (pv n c p b) := P2
  have c1 : V2.cell? ⟨gT, 1, none⟩ = some (.map (some pb)) := by rw [T2.cell]; rfl
  have c0 : V2.cell? ⟨gT, 0, none⟩ = some (.int .i64 (c : Int)) := by rw [T2.cell]; rfl
  have d1 : V2.cell? ⟨W.heap.size, 1, none⟩ = some (.int .i64 (p : Int)) := by rw [P2'.cell]; rfl
  have hti2 : L[i] ∈ L := List.getElem_mem hi
  have hmp := J2.tx _ hti2
  have hg := J2.good _ hti2
  rw [HH.out.2.1] at hmp
  have hfn : (L[i]).f p = none := by
    unfold TX.f
    rw [hx]
    rfl
  obtain ⟨V3, hrun, hm3, hg3⟩ := MapH.put Try.underlying3 hmp map_pieces (by have := cnt_le (L[i]).ps; unfold TX.cnt; rw [hg.ps] at this; have := hg.c3; omega) p (wf_p (by omega)) (.agg (pv n c p b))
  rw [hfn] at hm3
  simp only [Option.isSome_none, Bool.false_eq_true, if_false] at hm3
  have k3 := Kp.of_grown hg3
  have hpbm : pb ∈ foot jb (some m) ov' L := mem_foot.2 (Or.inr (Or.inr (Or.inr ⟨_, hti2, HH.out.2.1⟩)))
  have T3 := T2.kp k3 (by simp; exact fun e => HN.out.2.1 _ hpbm e.symm)
  have P3 := P2'.kp k3 (by simp; exact fun e => HN.out.1 _ hpbm e.symm)
  obtain ⟨J3, hft⟩ := J2.putIn i hi p b (by rw [HH.out.1]; exact hpc) hx (by rw [HH.out.1, HH.out.2.1, HH.out.2.2]; exact hm3) (by rw [HH.out.2.1]; exact k3)
  have K3 : Kp (W.heap.size :: foot jb (some m) ov' L) V V3 := (K2.mono (by simp)).trans k3 (fun g hg _ => by simp at hg; subst hg; exact List.mem_cons_of_mem _ hpbm)
  have hle : (L[i]).cnt + 1 ≤ c := by
    have h1 := cnt_set (L[i]).ps p b (by rw [hg.ps, HH.out.1]; exact hpc) hx
    have h2 := cnt_le ((L[i]).ps.set p (some b))
    rw [List.length_set, hg.ps, HH.out.1] at h2
    unfold TX.cnt
    omega
  have HR := Lib.hid (And.intro J3 (And.intro hft (And.intro K3 (And.intro hm3 (And.intro hg hle)))))
  have c0' : V3.cell? ⟨gT, 0, none⟩ = some (.int .i64 (c : Int)) := by rw [T3.cell]; rfl
  have c1' : V3.cell? ⟨gT, 1, none⟩ = some (.map (some pb)) := by rw [T3.cell]; rfl
  have HT := Lib.hid (And.intro P3 T3)
  clear J2 P2 T2 K2 hmp hg hfn hg3 k3 hpbm T3 P3 J3 hft K3 hm3 hle c0
  have HP2 := Lib.hid P2'
  clear P2'
  go_upto_region 11 with (first
    | (refine wpExec rfl (.agg (pv n c p b)) (exec_load_row 66 (.tmp 3) W.heap.size HP2.out Try.underlying66 rfl piece_size rfl rfl) ?_)
    | fail)
  clear hrun c1 d1 HP2
  have hlt := hcn
  have t11 : (((L[i]).cnt + 1 : Nat) : Int) < (c : Int) := by omega
  go_wp2_with (first
    | (refine wpExec rfl (.int .i64 (((L[i]).cnt + 1 : Nat) : Int)) (exec_lenM HR.out.2.2.2.1 map_pieces (.tmp 56) rfl rfl) ?_))
  go_ret3
  refine ⟨m, ov', pb, rfl, by rw [← HL.out.1]; exact HR.out.1, (KV.trans HR.out.2.2.1 (fun g hg hlt => ?_)), fun g hg => ?_⟩
  · rcases List.mem_cons.1 hg with h | h
    · omega
    · rcases HF.out g h with h | h
      · exact h
      · omega
  · rw [← HL.out.1, HR.out.2.1] at hg
    rcases HF.out g hg with h | h
    · exact Or.inl h
    · right; omega
set_option maxRecDepth 20000 in
set_option maxHeartbeats 1000000 in
theorem join_new_last {B jb : Nat} {mb : Option Nat} {W : World} {ov : Value} {l : List TX} (J : JInv B W jb mb ov l) (hB : B ≤ W.heap.size) (n c p : Nat) (b : ByteArray) (hn : n < 4294967296) (hc1 : 1 ≤ c) (hc3 : c ≤ 3) (hpc : p < c) (hb : b.size ≤ 512) (hnew : ∀ u, u ∈ l → u.n ≠ n) (hcc : c = 1) (h1b : 1 ≤ b.size) :
    Calls Try.prog 26 #[.pointer (some ⟨jb, 0, none⟩), .agg (pv n c p b)] W fun e W' => ∃ m' ov', e = .returned (.tuple #[.string ⟨(joinB (((List.replicate c none).set p (some b)).map fun o => o.getD ⟨#[]⟩)).toArray⟩, .bool true, .int .i64 0]) ∧ JInv B W' jb (some m') ov' (roomL l) ∧ Kp (foot jb mb ov l) W W' ∧ (∀ g, g ∈ foot jb (some m') ov' (roomL l) → g ∈ foot jb mb ov l ∨ W.heap.size ≤ g) := by
  have M : Mem W [(W.heap.size, 66, pv n c p b)] (W.alloc (.cells (pv n c p b) 66)) := (Mem.init W).alloc _ rfl _ _
  have HCC := Lib.hid hcc
  clear hcc
  have hlk : (txF l n).getD (.agg tz) = .agg tz ∧ (txF l n).isSome = false := by
    rw [txF_none hnew]
    exact ⟨rfl, rfl⟩
  have HLK := Lib.hid hlk
  clear hlk
  go_enter Try.func26, Try.ntmps26
  go_upto_region 1 with fail
  change Code.wp _ _ _ _ (W.alloc (.cells (pv n c p b) 66))
  generalize W.alloc (.cells (pv n c p b) 66) = W0 at M ⊢
  refine wp_region_noPanic ?_
  refine wp_region_held_drew (S := fun w' => Below W0.drew.heap.size W0.drew w') (by kernel_rfl) (Below.refl _ _) (fun hS => ?_)
  refine take1 hS 0 12 (.pointer (some ⟨jb, 0, none⟩)) _ rfl (by kernel_rfl) (by kernel_rfl) (by kernel_rfl) (fun _ _ _ h => h) rfl rfl (fun w' h => by go_simp) ?_
  simp only [Act.put, List.setIfInBounds_toArray, List.set_cons_zero, List.set_cons_succ]
  refine take1 hS 1 13 (.pointer (some ⟨jb, 0, none⟩)) _ rfl (by kernel_rfl) (by kernel_rfl) (by kernel_rfl) (fun _ _ _ h => h) rfl rfl (fun w' h => by go_simp) ?_
  simp only [Act.put, List.setIfInBounds_toArray, List.set_cons_zero, List.set_cons_succ]
  refine take1 hS 2 14 (.pointer (some ⟨jb, 0, none⟩)) _ rfl (by kernel_rfl) (by kernel_rfl) (by kernel_rfl) (fun _ _ _ h => h) rfl rfl (fun w' h => by go_simp) ?_
  simp only [Act.put, List.setIfInBounds_toArray, List.set_cons_zero, List.set_cons_succ]
  refine take1 hS 3 15 (.map mb) _ rfl (by kernel_rfl) (by kernel_rfl) (by kernel_rfl) (fun _ _ _ h => h) rfl rfl (fun w' h => by have cc := (J.step ((M.drew.step h).below)).cell.cell 0; go_simp) ?_
  simp only [Act.put, List.setIfInBounds_toArray, List.set_cons_zero, List.set_cons_succ]
  refine take1 hS 4 16 (.pointer (some ⟨W.heap.size, 0, none⟩)) _ rfl (by kernel_rfl) (by kernel_rfl) (by kernel_rfl) (fun _ _ _ h => h) rfl rfl (fun w' h => by go_simp) ?_
  simp only [Act.put, List.setIfInBounds_toArray, List.set_cons_zero, List.set_cons_succ]
  refine take1 hS 5 17 (V64 n) _ rfl (by kernel_rfl) (by kernel_rfl) (by kernel_rfl) (fun _ _ _ h => h) rfl rfl (fun w' h => by have cc := ((M.drew.step h).row 0 rfl).cell 0; go_simp) ?_
  simp only [Act.put, List.setIfInBounds_toArray, List.set_cons_zero, List.set_cons_succ]
  refine take1 hS 6 18 (.tuple #[.agg tz, .bool false]) _ rfl (by kernel_rfl) (by kernel_rfl) (by kernel_rfl) (fun _ _ _ h => h) rfl rfl (fun w' h => by exact exec_texts (J.step ((M.drew.step h).below)) n hn (.tmp 15) (.tmp 17) rfl rfl rfl _ _ HLK.out.1 HLK.out.2) ?_
  simp only [Act.put, List.setIfInBounds_toArray, List.set_cons_zero, List.set_cons_succ]
  refine take1 hS 7 11 (.tuple #[.agg tz, .bool false]) _ rfl (by kernel_rfl) (by kernel_rfl) (by kernel_rfl) (fun _ _ _ h => h) rfl rfl (fun w' h => by go_simp) ?_
  simp only [Act.put, List.setIfInBounds_toArray, List.set_cons_zero, List.set_cons_succ]
  refine take1 hS 8 19 (.agg tz) _ rfl (by kernel_rfl) (by kernel_rfl) (by kernel_rfl) (fun _ _ _ h => h) rfl rfl (fun w' h => by go_simp) ?_
  simp only [Act.put, List.setIfInBounds_toArray, List.set_cons_zero, List.set_cons_succ]
  refine take1 hS 9 20 (.bool false) _ rfl (by kernel_rfl) (by kernel_rfl) (by kernel_rfl) (fun _ _ _ h => h) rfl rfl (fun w' h => by go_simp) ?_
  simp only [Act.put, List.setIfInBounds_toArray, List.set_cons_zero, List.set_cons_succ]
  have hS1 : Below W0.drew.heap.size W0.drew (W0.drew.alloc (.cells tz 80)) := (Below.refl _ _).alloc (Nat.le_refl _) _
  have M1 := M.drew.alloc _ rfl 80 tz
  simp only [List.cons_append, List.nil_append] at M1
  refine onlyVal 10 7 (.pointer (some ⟨W0.drew.heap.size, 0, none⟩)) (W0.drew.alloc (.cells tz 80)) _ (by kernel_rfl) rfl rfl rfl (alloc_text rfl) hS1 ?_
  simp only [Act.put, List.setIfInBounds_toArray, List.set_cons_zero, List.set_cons_succ]
  have hS2 := below_setRow hS1 (g := W0.drew.heap.size) (Nat.le_refl _) tz
  obtain ⟨gT, hgTd⟩ : ∃ gT, W0.drew.heap.size = gT := ⟨_, rfl⟩
  rw [hgTd] at M1 hS2
  generalize W0.drew.alloc (.cells tz 80) = V0 at M1 hS1 hS2 ⊢
  rw [hgTd]
  refine onlySkip 11 (V0.setRow gT tz) _ (by kernel_rfl) rfl rfl rfl (exec_store_row (P := Try.prog) 80 (.tmp 7) (.tmp 19) gT tz (M1.row 1 rfl) text_sizeZ rfl (text_one0) rfl rfl rfl) hS2 ?_
  simp only [Act.put]
  have M := M1.store 1 rfl tz
  simp only [List.set_cons_zero, List.set_cons_succ] at M
  generalize V0.setRow gT tz = V at M hS2 ⊢
  clear M1 hS1 hS
  refine onlyVal 12 8 (.bool false) V _ (by kernel_rfl) rfl rfl rfl (by go_simp) hS2 ?_
  simp only [Act.put, List.setIfInBounds_toArray, List.set_cons_zero, List.set_cons_succ]
  clear hS2 hgTd
  refine wpAnyH_done (by kernel_rfl) ?_ _
  refine NoPanic.normal ?_
  have c0 := (M.row 0 rfl).cell 1
  have c1 := (M.row 1 rfl).cell 1
  have HM := Lib.hid M
  clear M
  go_upto_region 8 with (first
    | (refine wpExec rfl (.tuple #[.agg pz, .bool false]) (exec_nilOk Try.underlying3 _ map_pieces (zero_piece _) p (wf_p (by omega)) (.tmp 31) (.tmp 33) rfl rfl rfl) ?_)
    | fail)
  have M := HM.out.alloc _ rfl 66 pz
  simp only [List.cons_append, List.nil_append] at M
  clear c0 c1 HM
  change Code.wp _ _ _ _ (V.alloc (.cells pz 66))
  generalize V.alloc (.cells pz 66) = V at M ⊢
  have c0 := (M.row 0 rfl).cell 0
  have c2 := (M.row 0 rfl).cell 2
  have hbg := begin_any (J.step M.below) (by have := M.below.size; omega) n c hn hc1 hc3 hnew
  have HBG := Lib.hid hbg
  have HM := Lib.hid M
  clear hbg M
  go_wp2_with fail
  refine HBG.out.mono ?_
  rintro e Vb ⟨m, ov', pb, rfl, Jb, kb, fb⟩
  clear c0 c2 HBG
  have M := HM.out
  clear HM
  have hlt0 := J.lt
  have hgT : W.heap.size ≤ gT := M.own 1 _ rfl
  have hgT2 : gT < V.heap.size := (M.row 1 rfl).lt
  have hP2 : W.heap.size < V.heap.size := (M.row 0 rfl).lt
  have hneT : gT ≠ W.heap.size := fun e => M.apart 1 0 _ _ rfl rfl (by omega) e
  have Pb := (M.row 0 rfl).kp kb (fun h => by have := hlt0 _ h; omega)
  have Tb := (M.row 1 rfl).kp kb (fun h => by have := hlt0 _ h; omega)
  have kr := Kp.of_row Vb gT (tv c pb)
  have hF : ∀ g, g ∈ foot jb (some m) ov' (roomL l ++ [newT n c pb]) → g ∈ foot jb mb ov l ∨ V.heap.size ≤ g := fb
  have HV := Lib.hid (And.intro (Jb.kp kr (fun g hg => by
    simp
    rcases hF g hg with h | h
    · have := hlt0 g h; omega
    · omega)) (And.intro (Pb.kp kr (by simp; exact fun e => hneT e.symm)) (Tb.setRow (tv c pb))))
  have HN : Hid ((∀ g, g ∈ foot jb (some m) ov' (roomL l ++ [newT n c pb]) → g ≠ W.heap.size) ∧ (∀ g, g ∈ foot jb (some m) ov' (roomL l ++ [newT n c pb]) → g ≠ gT) ∧ gT ≠ W.heap.size) :=
    ⟨fun g hg => by
      rcases hF g hg with h | h
      · have := hlt0 g h; omega
      · omega, fun g hg => by
      rcases hF g hg with h | h
      · have := hlt0 g h; omega
      · omega, hneT⟩
  have KV : Kp (foot jb mb ov l) W (Vb.setRow gT (tv c pb)) := ((Kp.of_below (foot jb mb ov l) M.below).trans kb (fun g hg _ => hg)).trans kr (fun g hg hlt => by simp at hg; omega)
  have HF := Lib.hid hF
  have hVW : W.heap.size ≤ V.heap.size := by omega
  clear M hlt0 hgT hgT2 hP2 hneT Pb kb kr hF fb Jb
  go_upto_region 9 with (first
    | (refine wpList_store_row rfl 80 (.tmp 7) (.tmp 45) rfl gT (tv c pb) rfl rfl 80 tz Tb text_size rfl (text_one _ _) ?_)
    | fail)
  clear Tb
  generalize Vb.setRow gT (tv c pb) = V at HV KV ⊢
  obtain ⟨L, hL⟩ : ∃ L, roomL l ++ [newT n c pb] = L := ⟨_, rfl⟩
  obtain ⟨i, hid⟩ : ∃ i, (roomL l).length = i := ⟨_, rfl⟩
  have hi : i < L.length := by rw [← hL, ← hid]; simp
  have hLi : L[i] = newT n c pb := by
    subst hL
    subst hid
    rw [List.getElem_append_right (Nat.le_refl _)]
    simp
  have hLset : L.set i ((L[i]).put p b) = roomL l ++ [⟨n, c, pb, (List.replicate c none).set p (some b)⟩] := by
    rw [hLi, ← hL, ← hid, List.set_append_right _ _ (Nat.le_refl _), Nat.sub_self]
    rfl
  have hLer : L.eraseIdx i = roomL l := by
    rw [← hL, ← hid, List.eraseIdx_append_of_length_le (Nat.le_refl _), Nat.sub_self]
    simp
  have hx : (L[i]).ps.getD p none = none := by
    rw [hLi]
    show (List.replicate c (none : Option ByteArray)).getD p none = none
    rw [List.getD_eq_getElem?_getD, List.getElem?_replicate]
    split <;> rfl
  have hcnt0 : (L[i]).cnt = 0 := by rw [hLi]; exact newT_cnt n c pb
  rw [hL] at HV HN HF
  have HH : Hid ((L[i]).c = c ∧ (L[i]).pb = pb ∧ (L[i]).n = n) := by rw [hLi]; exact ⟨rfl, rfl, rfl⟩
  have hpsL : (L[i]).ps = List.replicate c none := by rw [hLi]
  have HL := Lib.hid (And.intro hLset (And.intro hLer hpsL))
  clear hLset hLer hpsL hL hid hLi
  have hcn : ¬ (L[i]).cnt + 1 < c := by have := HCC.out; omega
  have hbs : ∀ o, o ∈ (L[i]).ps.set p (some b) → 1 ≤ (o.getD ⟨#[]⟩).size ∧ (o.getD ⟨#[]⟩).size ≤ 512 := fun o ho => by
    rw [HL.out.2.2, HCC.out] at ho
    have hp0 : p = 0 := by have := HCC.out; omega
    rw [hp0] at ho
    have : o = some b := by simpa using ho
    rw [this]
    exact ⟨h1b, hb⟩
  have hcl := fun W => clone_any b (by omega) W
  have HCL := Lib.hid hcl
  clear hcl
  have c3 : V.cell? ⟨W.heap.size, 3, none⟩ = some (.string b) := by rw [HV.out.2.1.cell]; rfl
  go_wp2_with fail
  refine (HCL.out _).mono ?_
  rintro e V1 ⟨rfl, hb1⟩
  have P1 := Has.below HV.out.2.1 hb1 HV.out.2.1.lt
  have T1 := Has.below HV.out.2.2 hb1 HV.out.2.2.lt
  have J1 := HV.out.1.step hb1
  have c3 : V1.cell? ⟨W.heap.size, 3, none⟩ = some (.string b) := by rw [P1.cell]; rfl
  have f3 := P1.frozen 3
  have P2 := P1.set 3 (.string b)
  have k2 := Kp.of_set V1 W.heap.size 3 (.string b)
  have T2 := T1.kp k2 (by simp; exact HN.out.2.2)
  have J2 := J1.kp k2 (fun g hg => by simp; exact HN.out.1 g hg)
  have K2 : Kp [W.heap.size] V (V1.setCell ⟨W.heap.size, 3, none⟩ (.string b)) := (Kp.of_below [W.heap.size] hb1).trans k2 (fun _ h _ => h)
  have HV2 := Lib.hid (And.intro J2 (And.intro P2 (And.intro T2 K2)))
  clear P1 T1 J1 k2 P2 T2 J2 K2 hb1 HCL
  go_upto_region 10 with fail
  clear c3 f3
  obtain ⟨J2, P2, T2, K2⟩ := HV2.out
  clear HV2 HV
  generalize V1.setCell ⟨W.heap.size, 3, none⟩ (.string b) = V2 at J2 P2 T2 K2 ⊢
  have P2' : Has V2 W.heap.size 66 (pv n c p b) := P2
  have c1 : V2.cell? ⟨gT, 1, none⟩ = some (.map (some pb)) := by rw [T2.cell]; rfl
  have c0 : V2.cell? ⟨gT, 0, none⟩ = some (.int .i64 (c : Int)) := by rw [T2.cell]; rfl
  have d1 : V2.cell? ⟨W.heap.size, 1, none⟩ = some (.int .i64 (p : Int)) := by rw [P2'.cell]; rfl
  have hti2 : L[i] ∈ L := List.getElem_mem hi
  have hmp := J2.tx _ hti2
  have hg := J2.good _ hti2
  rw [HH.out.2.1] at hmp
  have hfn : (L[i]).f p = none := by
    unfold TX.f
    rw [hx]
    rfl
  obtain ⟨V3, hrun, hm3, hg3⟩ := MapH.put Try.underlying3 hmp map_pieces (by have := cnt_le (L[i]).ps; unfold TX.cnt; rw [hg.ps] at this; have := hg.c3; omega) p (wf_p (by omega)) (.agg (pv n c p b))
  rw [hfn] at hm3
  simp only [Option.isSome_none, Bool.false_eq_true, if_false] at hm3
  have k3 := Kp.of_grown hg3
  have hpbm : pb ∈ foot jb (some m) ov' L := mem_foot.2 (Or.inr (Or.inr (Or.inr ⟨_, hti2, HH.out.2.1⟩)))
  have T3 := T2.kp k3 (by simp; exact fun e => HN.out.2.1 _ hpbm e.symm)
  have P3 := P2'.kp k3 (by simp; exact fun e => HN.out.1 _ hpbm e.symm)
  obtain ⟨J3, hft⟩ := J2.putIn i hi p b (by rw [HH.out.1]; exact hpc) hx (by rw [HH.out.1, HH.out.2.1, HH.out.2.2]; exact hm3) (by rw [HH.out.2.1]; exact k3)
  have K3 : Kp (W.heap.size :: foot jb (some m) ov' L) V V3 := (K2.mono (by simp)).trans k3 (fun g hg _ => by simp at hg; subst hg; exact List.mem_cons_of_mem _ hpbm)
  have hle : (L[i]).cnt + 1 ≤ c := by
    have h1 := cnt_set (L[i]).ps p b (by rw [hg.ps, HH.out.1]; exact hpc) hx
    have h2 := cnt_le ((L[i]).ps.set p (some b))
    rw [List.length_set, hg.ps, HH.out.1] at h2
    unfold TX.cnt
    omega
  have HR := Lib.hid (And.intro J3 (And.intro hft (And.intro K3 (And.intro hm3 (And.intro hg hle)))))
  have c0' : V3.cell? ⟨gT, 0, none⟩ = some (.int .i64 (c : Int)) := by rw [T3.cell]; rfl
  have c1' : V3.cell? ⟨gT, 1, none⟩ = some (.map (some pb)) := by rw [T3.cell]; rfl
  have HT := Lib.hid (And.intro P3 T3)
  clear J2 P2 T2 K2 hmp hg hfn hg3 k3 hpbm T3 P3 J3 hft K3 hm3 hle c0
  have HP2 := Lib.hid P2'
  clear P2'
  go_upto_region 11 with (first
    | (refine wpExec rfl (.agg (pv n c p b)) (exec_load_row 66 (.tmp 3) W.heap.size HP2.out Try.underlying66 rfl piece_size rfl rfl) ?_)
    | fail)
  clear hrun c1 d1 HP2
  have hlt := hcn
  have hm : (L[i]).cnt + 1 = c := by have := HR.out.2.2.2.2.2; omega
  have t11 : ¬ (((L[i]).cnt + 1 : Nat) : Int) < (c : Int) := by omega
  have d0 : V3.cell? ⟨W.heap.size, 0, none⟩ = some (V64 n) := by rw [HT.out.1.cell]; rfl
  go_upto_region 13 with (first
    | (refine wpExec rfl (.int .i64 (((L[i]).cnt + 1 : Nat) : Int)) (exec_lenM HR.out.2.2.2.1 map_pieces (.tmp 56) rfl rfl) ?_)
    | fail)
  clear c0' c1'
  have hi2 : i < (L.set i ((L[i]).put p b)).length := by rw [List.length_set]; exact hi
  have hdr := drop_any HR.out.1 i hi2
  have hnn : ((L.set i ((L[i]).put p b))[i]).n = n := by rw [List.getElem_set_self]; exact HH.out.2.2
  rw [hnn] at hdr
  have HDR := Lib.hid hdr
  clear hdr
  go_wp2_with fail
  refine HDR.out.mono ?_
  rintro e V4 ⟨rfl, ov4, J4, hov4, k4⟩
  clear d0 HDR
  have her : (L.set i ((L[i]).put p b)).eraseIdx i = L.eraseIdx i := by
    rw [List.eraseIdx_eq_take_drop_succ, List.eraseIdx_eq_take_drop_succ, List.take_set_of_le (Nat.le_refl _), List.drop_set_of_lt (by omega)]
  rw [her] at J4
  have hF4 : ∀ g, g ∈ (jb :: m :: ov'.ownBlock.toList) → g ∈ foot jb (some m) ov' L := fun g hg => by
    simp at hg
    rcases hg with h | h | h
    · exact mem_foot.2 (Or.inl h)
    · exact mem_foot.2 (Or.inr (Or.inl (congrArg some h.symm)))
    · exact mem_foot.2 (Or.inr (Or.inr (Or.inl h)))
  have T4 := HT.out.2.kp k4 (fun h => HN.out.2.1 _ (hF4 _ h) rfl)
  have hap := HR.out.1.apart
  have htm : (L[i]).put p b ∈ L.set i ((L[i]).put p b) := by
    have := List.getElem_mem hi2
    rw [List.getElem_set_self] at this
    exact this
  have M4 := HR.out.2.2.2.1.kp k4 (fun h => by
    simp at h
    have e3 := HH.out.2.1
    rcases h with h | h | h
    · exact hap.2.2.1 _ htm (e3.trans h)
    · exact hap.2.2.2.2.1 m _ rfl htm (h.symm.trans e3.symm)
    · exact hap.2.2.2.2.2.1 _ _ h htm e3.symm)
  have hg := HR.out.2.2.2.2.1
  have hplen : p < (L[i]).ps.length := by rw [hg.ps, HH.out.1]; exact hpc
  have hcs := cnt_set (L[i]).ps p b hplen hx
  have hlenS : ((L[i]).ps.set p (some b)).length = c := by rw [List.length_set, hg.ps]; exact HH.out.1
  have hca := cnt_all ((L[i]).ps.set p (some b)) (by rw [hcs, hlenS]; exact hm)
  have hwh := whole_any n c pb _ (((L[i]).ps.set p (some b)).map fun o => o.getD ⟨#[]⟩) _ V4 M4 hc1 hc3 (by rw [List.length_map]; exact hlenS) (fun q hq => by
    have h1 := hca q (by rw [hlenS]; exact hq)
    have e1 : (((L[i]).ps.set p (some b)).map fun o => o.getD ⟨#[]⟩).getD q ⟨#[]⟩ = (((L[i]).ps.set p (some b)).getD q none).getD ⟨#[]⟩ := by
      rw [List.getD_eq_getElem?_getD, List.getD_eq_getElem?_getD, List.getElem?_map]
      cases ((L[i]).ps.set p (some b))[q]? <;> rfl
    rw [e1]
    have h2 := put_f (L[i]) p b hplen q
    rw [HH.out.1, HH.out.2.2] at h2
    rw [← h2]
    unfold TX.f
    show (((L[i]).ps.set p (some b)).getD q none).map _ = _
    rw [h1, HH.out.1, HH.out.2.2]
    rfl) (fun b' hb' => by
    obtain ⟨o, ho, rfl⟩ := List.mem_map.1 hb'
    exact (hbs o ho).1) (fun b' hb' => by
    obtain ⟨o, ho, rfl⟩ := List.mem_map.1 hb'
    exact (hbs o ho).2)
  obtain ⟨R, hRd⟩ : ∃ R, joinB (((L[i]).ps.set p (some b)).map fun o => o.getD ⟨#[]⟩) = R := ⟨_, rfl⟩
  rw [hRd] at hwh
  have HRd := Lib.hid hRd
  clear hRd
  have K4 := HR.out.2.2.1.trans k4 (fun g hg _ => List.mem_cons_of_mem _ (hF4 g hg))
  have hft4 : ∀ g, g ∈ foot jb (some m) ov4 (L.eraseIdx i) → g ∈ foot jb (some m) ov' L := (foot_sub hov4 (List.eraseIdx_sublist L i)).subset
  have HR4 := Lib.hid (And.intro J4 (And.intro K4 hft4))
  have HW := Lib.hid hwh
  clear k4 her hF4 hap htm M4 hg hplen hcs hlenS hca hwh K4 hft4 J4 hov4 hi2 hnn t11 hm
  go_wp2_with (first
    | (refine wpExec rfl (.agg (tv c pb)) (exec_load_row 80 (.tmp 7) gT T4 Try.underlying80 rfl text_size rfl rfl) ?_)
    | (go_at_call 36; refine HW.out.mono ?_; rintro e V5 ⟨rfl, hb5⟩))
  go_ret3
  refine ⟨m, ov4, by rw [← HL.out.2.2, HRd.out]; rfl, by rw [← HL.out.2.1]; exact HR4.out.1.step hb5, ((KV.trans HR4.out.2.1 (fun g hg hlt => ?_)).trans (Kp.of_below [] hb5) (by simp)), fun g hg => ?_⟩
  · rcases List.mem_cons.1 hg with h | h
    · omega
    · rcases HF.out g h with h | h
      · exact h
      · omega
  · rw [← HL.out.2.1] at hg
    rcases HF.out g (HR4.out.2.2 g hg) with h | h
    · exact Or.inl h
    · right; omega
end Go.Proofs.Ythpbhimmfmablaa
