/- tun's begin: walked. -/
import Derived.Test.YthpbhimmfmablaaTUR
import Derived.Test.YthpbhimmfmablaaHM
namespace Go.Proofs.Ythpbhimmfmablaa
open Go.RowKit
theorem results_row0 {P : Program} {fn : Func} {p : Tmp} {ty : TypeId} (h : fn.results = #[.cell p ty]) (tmps : Array Value) (w : World) (g : Nat) (t : TypeId) (cs : Array Value) (fr : Nat × Nat) (d : TypeDesc)
    (hp : tmps.getD p undef = .pointer (some ⟨g, 0, none⟩)) (hg : w.heap[g]? = some (.cells cs t fr))
    (hu : P.underlying ty = some d) (hd : (match d with | .struct _ | .array _ _ => true | _ => false) = true) (hi : (P.info? ty).map (·.size) = some cs.size) :
    (results fn tmps).run P w = .ok (.agg cs) w := by
  have hp' : tmps[p]?.getD undef = .pointer (some ⟨g, 0, none⟩) := by simpa using hp
  simp [results, h, hp', asAddr, run_loadVar_row w g t ty cs fr d hg hu hd hi]
theorem text_size {c pb : Nat} : (Try.prog.info? 80).map (·.size) = some (tv c pb).size := by kernel_rfl
theorem text_one (c pb : Nat) : (tv c pb).all (·.oneCell') = true := by simp [Value.oneCell']
theorem map_some (m : Nat) (w : World) : (binOp .eql 38 (.map (some m)) (.map none)).run Try.prog w = .ok (.bool false) w := by kernel_rfl
theorem map_none (w : World) : (binOp .eql 38 (.map none) (.map none)).run Try.prog w = .ok (.bool true) w := by kernel_rfl
abbrev tz : Array Value := #[.int .i64 0, .map none]
set_option maxRecDepth 20000 in
set_option maxHeartbeats 1000000 in
theorem begin_some {B jb m : Nat} {W : World} {ov : Value} {l : List TX} (J : JInv B W jb (some m) ov l) (h8 : l.length ≤ 7) (hB : B ≤ W.heap.size) (n c : Nat) (hn : n < 4294967296) (hc1 : 1 ≤ c) (hc3 : c ≤ 3) (hnew : ∀ u, u ∈ l → u.n ≠ n) :
    Calls Try.prog 34 #[.pointer (some ⟨jb, 0, none⟩), V64 n, .int .i64 (c : Int)] W fun e W' => ∃ m' ov' pb, e = .returned (.agg (tv c pb)) ∧ JInv B W' jb (some m') ov' (l ++ [newT n c pb]) ∧ Kp (foot jb (some m) ov l) W W' ∧ (∀ g, g ∈ foot jb (some m') ov' (l ++ [newT n c pb]) → g ∈ foot jb (some m) ov l ∨ W.heap.size ≤ g) := by
  obtain ⟨i0, hi, hz0, hz1, hz2⟩ := info_parts u64_info
  have J0 := J.step ((Below.refl W.heap.size W).alloc (Nat.le_refl _) (.cells tz 80))
  have R0 : Has (W.alloc (.cells tz 80)) W.heap.size 80 tz := Has.fresh W _ _
  have K0 : Kp (foot jb (some m) ov l) W (W.alloc (.cells tz 80)) := Kp.of_below _ ((Below.refl W.heap.size W).alloc (Nat.le_refl _) _)
  have s0 : W.heap.size + 1 ≤ (W.alloc (.cells tz 80)).heap.size := by simp
  have r0F : ∀ g, g ∈ foot jb (some m) ov l → g ≠ W.heap.size := fun g hg => by have := J.lt g hg; omega
  obtain ⟨av, cap, hov⟩ := J.own.form
  rw [List.length_map] at hov
  have t8 : ((l.length : Int) == 8) = false := by rw [beq_eq_false_iff_ne]; omega
  have h8' := h8
  subst hov
  have c1 : (W.alloc (.cells tz 80)).cell? ⟨jb, 1, none⟩ = some (.slice av l.length cap) := by rw [J0.cell.cell]; rfl
  go_enter Try.func34, Try.ntmps34
  go_upto_region 1 with fail
  change Code.wp _ _ _ _ (W.alloc (.cells tz 80))
  generalize W.alloc (.cells tz 80) = Wc at *
  go_upto_region 3 with fail
  clear c1
  have hnm := map_some m Wc
  have hmm := @run_makeMap Try.prog
  have hBw : B ≤ Wc.heap.size := by have := K0.size; omega
  have c0 : Wc.cell? ⟨jb, 0, none⟩ = some (.map (some m)) := by rw [J0.cell.cell]; rfl
  have HJ := Lib.hid J0
  have HK := Lib.hid (And.intro R0 K0)
  have HF := Lib.hid (And.intro r0F s0)
  clear J0 R0 K0 r0F s0
  go_upto_region 6 with fail
  clear c0
  have M1 : MapH .i64 3 ((Wc.alloc (.map #[] 0)).alloc (.cells (tv c Wc.heap.size) 80)) Wc.heap.size (fun _ => none) 0 := (MapH.empty .i64 3 Wc).kp (F := []) (Kp.of_below [] ((Below.refl _ _).alloc (Nat.le_refl _) _)) (by simp)
  have T1 : Has ((Wc.alloc (.map #[] 0)).alloc (.cells (tv c Wc.heap.size) 80)) (Wc.heap.size + 1) 80 (tv c Wc.heap.size) := by
    have := Has.fresh (Wc.alloc (.map #[] 0)) 80 (tv c Wc.heap.size)
    simpa using this
  have B1 : Below Wc.heap.size Wc ((Wc.alloc (.map #[] 0)).alloc (.cells (tv c Wc.heap.size) 80)) := ((Below.refl _ _).alloc (Nat.le_refl _) _).alloc (by simp) _
  change Code.wp _ _ _ _ ((Wc.alloc (.map #[] 0)).alloc (.cells (tv c Wc.heap.size) 80))
  generalize (Wc.alloc (.map #[] 0)).alloc (.cells (tv c Wc.heap.size) 80) = W1 at M1 T1 B1 ⊢
  have J1 := HJ.out.step B1
  have HM1 := Lib.hid (And.intro M1 B1)
  clear M1 B1
  refine wp_region_noPanic ?_
  refine wp_region_flow (fin := ?fin1) 6 1 (by kernel_rfl) [.inl (.pointer (some ⟨jb, 0, none⟩)),
    .inl (.pointer (some ⟨jb, 0, none⟩)),
    .inl (.pointer (some ⟨jb, 0, none⟩)),
    .inl (.map (some m)),
    .inl (V64 n),
    .inl (.agg (tv c Wc.heap.size))] rfl rfl (by kernel_rfl) ?hfin1 ?hE1 ?hend1
  case hfin1 =>
    intro G
    simp only [flowAll, flowVal, Act.put, List.setIfInBounds_toArray, List.set_cons_zero, List.set_cons_succ]
    exact rfl
  case hE1 =>
    intro G
    refine ⟨Or.inr (fun W hB hR => known_val rfl (by go_simp)),
      Or.inr (fun W hB hR => known_val rfl (by go_simp)),
      Or.inr (fun W hB hR => known_val rfl (by go_simp)),
      Or.inr (fun W hB hR => known_val rfl (by have cc : W.cell? ⟨jb, 0, none⟩ = some (.map (some m)) := (by rw [(JInv.step (W := W1.drew) ⟨J1.cell, J1.own, J1.nomap, J1.map, J1.tx, J1.good, J1.ns, J1.len, J1.apart, J1.base⟩ hB).cell.cell]; rfl); go_simp)),
      Or.inr (fun W hB hR => known_val rfl (by go_simp)),
      Or.inr (fun W hB hR => known_val rfl (by exact exec_load_row 80 (.tmp 7) (Wc.heap.size + 1) (Has.below (w := W1.drew) T1 hB T1.lt) Try.underlying80 rfl text_size rfl rfl)), trivial⟩
  intro G Wd hBd hM
  have bd : Below W1.heap.size W1 Wd := ⟨hBd.os, hBd.tape, hBd.output, hBd.size, hBd.block⟩
  have Jd := J1.step bd
  have Td := Has.below T1 bd T1.lt
  have hmF : txF l n = none := txF_none hnew
  obtain ⟨W2, hrun, hm2, hg2⟩ := MapH.put Try.underlying22 (Jd.map m rfl) map_texts (by have := Jd.len; omega) n (wf_n hn) (.agg (tv c Wc.heap.size))
  rw [hmF] at hm2
  simp only [Option.isSome_none, Bool.false_eq_true, if_false] at hm2
  have k2 := Kp.of_grown hg2
  have T1F : Wc.heap.size + 1 ≠ m := by
    have := HJ.out.lt m (mem_foot.2 (Or.inr (Or.inl rfl)))
    omega
  have T2 := Td.kp k2 (by simp; exact T1F)
  have C2 := Jd.cell.kp k2 (by simp; exact fun e => Jd.apart.1 m rfl e.symm)
  have O2 := Jd.own.kp k2 (fun g hg => by simp; exact fun e => Jd.apart.2.2.2.1 m g rfl hg e.symm)
  have HD := Lib.hid (And.intro bd (And.intro hm2 k2))
  have HA := Lib.hid Jd.apart
  clear hBd hM Jd Td hm2 k2 hmF J1 T1 T1F bd hg2
  refine only0 6 W2 _ (by kernel_rfl) rfl rfl rfl (by go_simp) ?_
  clear hrun
  refine wpAny_end (by kernel_rfl) ?_ _
  refine NoPanic.normal ?_
  have c1 : W2.cell? ⟨jb, 1, none⟩ = some (.slice av l.length cap) := by rw [C2.cell]; rfl
  have hcn := (Has.fresh W2 22 #[V64 n]).cell 0
  have hlen := HJ.out.len
  have hsz : Wc.heap.size ≤ W2.heap.size := Nat.le_trans HM1.out.2.size (Nat.le_trans HD.out.1.size HD.out.2.2.size)
  have hgne : ∀ g, (Value.slice av l.length cap).ownBlock = some g → g ≠ jb := HA.out.2.1
  go_upto_region 8 with (first
    | (refine wpList_appR Try.underlying39 hi hz0 hz1 hz2 rfl (by omega) rfl (.tmp 44) (.tmp 46) rfl (v := .slice av l.length cap) rfl (O2.alloc _) W2.heap.size 1 (V64 n) rfl hcn rfl (by rw [List.length_map]; omega) (by simp; omega) ?_
       intro ov' W4 hO' hg' hat
       obtain ⟨av', cap', hov'⟩ := hO'.form
       generalize ((l.map fun t => V64 t.n) ++ [V64 n]).length = N at hov'
       subst hov'
       have C4 : Has W4 jb 41 #[.map (some m), .slice av l.length cap] := (hg'.block jb (by have := C2.lt; simp; omega) (fun e => hgne jb e.symm rfl)).trans (C2.alloc _)
       have c4 : W4.cell? ⟨jb, 1, none⟩ = some (.slice av l.length cap) := by rw [C4.cell]; rfl
       have f4 := C4.frozen 1)
    | fail)
  clear c1 c4 f4 C4
  have bA : Below W2.heap.size W2 (W2.alloc (.cells #[V64 n] 22)) := (Below.refl _ _).alloc (Nat.le_refl _) _
  obtain ⟨jN, kN, fN⟩ := JInv.added (W1 := Wd) HJ.out h8' hBw hn hc1 hc3 hnew (HM1.out.2.trans (HD.out.1.mono HM1.out.2.size)) (HM1.out.1.kp (F := []) (Kp.of_below [] HD.out.1) (by simp)) (Nat.le_refl _) HD.out.2.1 HD.out.2.2 bA hO' hg' hat
  have T5 : Has (W4.setCell ⟨jb, 1, none⟩ (.slice av' N cap')) (Wc.heap.size + 1) 80 (tv c Wc.heap.size) := by
    have hne : ∀ g, (Value.slice av l.length cap).ownBlock = some g → g ≠ Wc.heap.size + 1 := fun g hg => by
      have := HJ.out.lt g (mem_foot.2 (Or.inr (Or.inr (Or.inl hg))))
      omega
    have T4 : Has W4 (Wc.heap.size + 1) 80 (tv c Wc.heap.size) := (hg'.block _ (by have := T2.lt; simp; omega) (fun e => hne _ e.symm rfl)).trans (T2.alloc _)
    exact T4.kp (Kp.of_set W4 jb 1 _) (by have := HJ.out.lt jb (mem_foot.2 (Or.inl rfl)); simp; omega)
  have R5 : Has (W4.setCell ⟨jb, 1, none⟩ (.slice av' N cap')) W.heap.size 80 tz := by
    refine HK.out.1.kp kN (fun h => HF.out.1 _ h rfl)
  clear hg' hat hO' O2 C2 T2 bA hcn hgne
  generalize W4.setCell ⟨jb, 1, none⟩ (.slice av' N cap') = W5 at *
  go_wp2_with (first
    | (refine wpExec rfl (.agg (tv c Wc.heap.size)) (exec_load_row 80 (.tmp 7) (Wc.heap.size + 1) T5 Try.underlying80 rfl text_size rfl rfl) ?_)
    | (refine wpList_store_row rfl 80 (.tmp 6) (.tmp 50) rfl W.heap.size (tv c Wc.heap.size) rfl rfl 80 tz R5 text_size rfl (text_one _ _) ?_))
  have kR := Kp.of_row W5 W.heap.size (tv c Wc.heap.size)
  have hR : ∀ g, g ∈ foot jb (some m) (.slice av' N cap') (l ++ [newT n c Wc.heap.size]) → g ≠ W.heap.size := fun g hg => by
    rcases fN g hg with h | h
    · exact HF.out.1 g h
    · have := HF.out.2; omega
  refine bodyPost_ret (v := .agg (tv c Wc.heap.size)) (results_row0 rfl _ _ W.heap.size 80 (tv c Wc.heap.size) (0, 0) _ rfl (R5.setRow _) Try.underlying80 rfl text_size) rfl ⟨m, _, Wc.heap.size, rfl, jN.kp kR (fun g hg => by simp; exact hR g hg), (HK.out.2.trans kN (fun g hg hlt => hg)).trans kR (fun g hg hlt => by simp at hg; omega), fun g hg => ?_⟩
  rcases fN g hg with h | h
  · exact Or.inl h
  · right; have := HF.out.2; omega
set_option maxRecDepth 20000 in
set_option maxHeartbeats 1000000 in
theorem begin_none {B jb : Nat} {W : World} {ov : Value} {l : List TX} (J : JInv B W jb none ov l) (hB : B ≤ W.heap.size) (n c : Nat) (hn : n < 4294967296) (hc1 : 1 ≤ c) (hc3 : c ≤ 3) (hnew : ∀ u, u ∈ l → u.n ≠ n) :
    Calls Try.prog 34 #[.pointer (some ⟨jb, 0, none⟩), V64 n, .int .i64 (c : Int)] W fun e W' => ∃ m' ov' pb, e = .returned (.agg (tv c pb)) ∧ JInv B W' jb (some m') ov' (l ++ [newT n c pb]) ∧ Kp (foot jb none ov l) W W' ∧ (∀ g, g ∈ foot jb (some m') ov' (l ++ [newT n c pb]) → g ∈ foot jb none ov l ∨ W.heap.size ≤ g) := by
  obtain ⟨i0, hi, hz0, hz1, hz2⟩ := info_parts u64_info
  have J0 := J.step ((Below.refl W.heap.size W).alloc (Nat.le_refl _) (.cells tz 80))
  have R0 : Has (W.alloc (.cells tz 80)) W.heap.size 80 tz := Has.fresh W _ _
  have K0 : Kp (foot jb none ov l) W (W.alloc (.cells tz 80)) := Kp.of_below _ ((Below.refl W.heap.size W).alloc (Nat.le_refl _) _)
  have s0 : W.heap.size + 1 ≤ (W.alloc (.cells tz 80)).heap.size := by simp
  have r0F : ∀ g, g ∈ foot jb none ov l → g ≠ W.heap.size := fun g hg => by have := J.lt g hg; omega
  obtain ⟨av, cap, hov⟩ := J.own.form
  rw [List.length_map] at hov
  have h8' : l.length ≤ 7 := by rw [J.nomap rfl]; simp
  have t8 : ((l.length : Int) == 8) = false := by rw [beq_eq_false_iff_ne]; omega
  subst hov
  have c1 : (W.alloc (.cells tz 80)).cell? ⟨jb, 1, none⟩ = some (.slice av l.length cap) := by rw [J0.cell.cell]; rfl
  go_enter Try.func34, Try.ntmps34
  go_upto_region 1 with fail
  change Code.wp _ _ _ _ (W.alloc (.cells tz 80))
  generalize W.alloc (.cells tz 80) = Wb at *
  go_upto_region 3 with fail
  clear c1
  have hnm := map_none Wb
  have hmm := @run_makeMap Try.prog
  have c0 : Wb.cell? ⟨jb, 0, none⟩ = some (.map none) := by rw [J0.cell.cell]; rfl
  have c0a : (Wb.alloc (.map #[] 0)).cell? ⟨jb, 0, none⟩ = some (.map none) := by rw [(J0.cell.alloc _).cell]; rfl
  have f0a := (J0.cell.alloc (.map #[] 0)).frozen 0
  have hBb : B ≤ Wb.heap.size := by have := K0.size; omega
  obtain ⟨J1, k1⟩ := J0.mapped hBb
  have HH := Lib.hid (And.intro J1 (And.intro k1 (And.intro J0 (And.intro R0 (And.intro K0 (And.intro s0 r0F))))))
  clear J0 R0 K0 s0 r0F J1 k1
  go_upto_region 5 with fail
  clear c0 c0a f0a
  obtain ⟨J1, k1, Jb, R0, K0, s0, r0F⟩ := HH.out
  clear HH
  have jlt := J.cell.lt
  have R1 : Has ((Wb.alloc (.map #[] 0)).setCell ⟨jb, 0, none⟩ (.map (some Wb.heap.size))) W.heap.size 80 tz := R0.kp k1 (by simp; omega)
  have K1 : Kp (foot jb none (.slice av l.length cap) l) W ((Wb.alloc (.map #[] 0)).setCell ⟨jb, 0, none⟩ (.map (some Wb.heap.size))) := K0.trans k1 (fun g hg _ => by simp at hg; subst hg; exact mem_foot.2 (Or.inl rfl))
  have s1 : W.heap.size + 1 ≤ ((Wb.alloc (.map #[] 0)).setCell ⟨jb, 0, none⟩ (.map (some Wb.heap.size))).heap.size := Nat.le_trans s0 k1.size
  have r1F : ∀ g, g ∈ foot jb (some Wb.heap.size) (.slice av l.length cap) l → g ≠ W.heap.size := fun g hg => by
    rcases mem_foot.1 hg with h | h | h | h
    · exact r0F g (mem_foot.2 (Or.inl h))
    · injection h with h; omega
    · exact r0F g (mem_foot.2 (Or.inr (Or.inr (Or.inl h))))
    · exact r0F g (mem_foot.2 (Or.inr (Or.inr (Or.inr h))))
  have hsub : ∀ g, g ∈ foot jb (some Wb.heap.size) (.slice av l.length cap) l → g ∈ foot jb none (.slice av l.length cap) l ∨ W.heap.size ≤ g := fun g hg => by
    rcases mem_foot.1 hg with h | h | h | h
    · exact Or.inl (mem_foot.2 (Or.inl h))
    · injection h with h; right; omega
    · exact Or.inl (mem_foot.2 (Or.inr (Or.inr (Or.inl h))))
    · exact Or.inl (mem_foot.2 (Or.inr (Or.inr (Or.inr h))))
  clear k1 R0 K0 r0F jlt Jb
  generalize (Wb.alloc (.map #[] 0)).setCell ⟨jb, 0, none⟩ (.map (some Wb.heap.size)) = Wc at *
  generalize Wb.heap.size = m at *
  have J0 := J1
  clear J1
  have R0 := R1
  clear R1
  have K0 := K1
  clear K1
  have s0' := s1
  clear s1
  have r0F := r1F
  clear r1F
  clear s0
  have s0 := s0'
  clear s0'
  have hBw : B ≤ Wc.heap.size := by have := K0.size; omega
  have c0 : Wc.cell? ⟨jb, 0, none⟩ = some (.map (some m)) := by rw [J0.cell.cell]; rfl
  have HJ := Lib.hid J0
  have HK := Lib.hid (And.intro R0 K0)
  have HF := Lib.hid (And.intro r0F s0)
  clear J0 R0 K0 r0F s0
  go_upto_region 6 with fail
  clear c0
  have M1 : MapH .i64 3 ((Wc.alloc (.map #[] 0)).alloc (.cells (tv c Wc.heap.size) 80)) Wc.heap.size (fun _ => none) 0 := (MapH.empty .i64 3 Wc).kp (F := []) (Kp.of_below [] ((Below.refl _ _).alloc (Nat.le_refl _) _)) (by simp)
  have T1 : Has ((Wc.alloc (.map #[] 0)).alloc (.cells (tv c Wc.heap.size) 80)) (Wc.heap.size + 1) 80 (tv c Wc.heap.size) := by
    have := Has.fresh (Wc.alloc (.map #[] 0)) 80 (tv c Wc.heap.size)
    simpa using this
  have B1 : Below Wc.heap.size Wc ((Wc.alloc (.map #[] 0)).alloc (.cells (tv c Wc.heap.size) 80)) := ((Below.refl _ _).alloc (Nat.le_refl _) _).alloc (by simp) _
  change Code.wp _ _ _ _ ((Wc.alloc (.map #[] 0)).alloc (.cells (tv c Wc.heap.size) 80))
  generalize (Wc.alloc (.map #[] 0)).alloc (.cells (tv c Wc.heap.size) 80) = W1 at M1 T1 B1 ⊢
  have J1 := HJ.out.step B1
  have HM1 := Lib.hid (And.intro M1 B1)
  clear M1 B1
  refine wp_region_noPanic ?_
  refine wp_region_flow (fin := ?fin2) 6 1 (by kernel_rfl) [.inl (.pointer (some ⟨jb, 0, none⟩)),
    .inl (.pointer (some ⟨jb, 0, none⟩)),
    .inl (.pointer (some ⟨jb, 0, none⟩)),
    .inl (.map (some m)),
    .inl (V64 n),
    .inl (.agg (tv c Wc.heap.size))] rfl rfl (by kernel_rfl) ?hfin2 ?hE2 ?hend2
  case hfin2 =>
    intro G
    simp only [flowAll, flowVal, Act.put, List.setIfInBounds_toArray, List.set_cons_zero, List.set_cons_succ]
    exact rfl
  case hE2 =>
    intro G
    refine ⟨Or.inr (fun W hB hR => known_val rfl (by go_simp)),
      Or.inr (fun W hB hR => known_val rfl (by go_simp)),
      Or.inr (fun W hB hR => known_val rfl (by go_simp)),
      Or.inr (fun W hB hR => known_val rfl (by have cc : W.cell? ⟨jb, 0, none⟩ = some (.map (some m)) := (by rw [(JInv.step (W := W1.drew) ⟨J1.cell, J1.own, J1.nomap, J1.map, J1.tx, J1.good, J1.ns, J1.len, J1.apart, J1.base⟩ hB).cell.cell]; rfl); go_simp)),
      Or.inr (fun W hB hR => known_val rfl (by go_simp)),
      Or.inr (fun W hB hR => known_val rfl (by exact exec_load_row 80 (.tmp 7) (Wc.heap.size + 1) (Has.below (w := W1.drew) T1 hB T1.lt) Try.underlying80 rfl text_size rfl rfl)), trivial⟩
  intro G Wd hBd hM
  have bd : Below W1.heap.size W1 Wd := ⟨hBd.os, hBd.tape, hBd.output, hBd.size, hBd.block⟩
  have Jd := J1.step bd
  have Td := Has.below T1 bd T1.lt
  have hmF : txF l n = none := txF_none hnew
  obtain ⟨W2, hrun, hm2, hg2⟩ := MapH.put Try.underlying22 (Jd.map m rfl) map_texts (by have := Jd.len; omega) n (wf_n hn) (.agg (tv c Wc.heap.size))
  rw [hmF] at hm2
  simp only [Option.isSome_none, Bool.false_eq_true, if_false] at hm2
  have k2 := Kp.of_grown hg2
  have T1F : Wc.heap.size + 1 ≠ m := by
    have := HJ.out.lt m (mem_foot.2 (Or.inr (Or.inl rfl)))
    omega
  have T2 := Td.kp k2 (by simp; exact T1F)
  have C2 := Jd.cell.kp k2 (by simp; exact fun e => Jd.apart.1 m rfl e.symm)
  have O2 := Jd.own.kp k2 (fun g hg => by simp; exact fun e => Jd.apart.2.2.2.1 m g rfl hg e.symm)
  have HD := Lib.hid (And.intro bd (And.intro hm2 k2))
  have HA := Lib.hid Jd.apart
  clear hBd hM Jd Td hm2 k2 hmF J1 T1 T1F bd hg2
  refine only0 6 W2 _ (by kernel_rfl) rfl rfl rfl (by go_simp) ?_
  clear hrun
  refine wpAny_end (by kernel_rfl) ?_ _
  refine NoPanic.normal ?_
  have c1 : W2.cell? ⟨jb, 1, none⟩ = some (.slice av l.length cap) := by rw [C2.cell]; rfl
  have hcn := (Has.fresh W2 22 #[V64 n]).cell 0
  have hlen := HJ.out.len
  have hsz : Wc.heap.size ≤ W2.heap.size := Nat.le_trans HM1.out.2.size (Nat.le_trans HD.out.1.size HD.out.2.2.size)
  have hgne : ∀ g, (Value.slice av l.length cap).ownBlock = some g → g ≠ jb := HA.out.2.1
  go_upto_region 8 with (first
    | (refine wpList_appR Try.underlying39 hi hz0 hz1 hz2 rfl (by omega) rfl (.tmp 44) (.tmp 46) rfl (v := .slice av l.length cap) rfl (O2.alloc _) W2.heap.size 1 (V64 n) rfl hcn rfl (by rw [List.length_map]; omega) (by simp; omega) ?_
       intro ov' W4 hO' hg' hat
       obtain ⟨av', cap', hov'⟩ := hO'.form
       generalize ((l.map fun t => V64 t.n) ++ [V64 n]).length = N at hov'
       subst hov'
       have C4 : Has W4 jb 41 #[.map (some m), .slice av l.length cap] := (hg'.block jb (by have := C2.lt; simp; omega) (fun e => hgne jb e.symm rfl)).trans (C2.alloc _)
       have c4 : W4.cell? ⟨jb, 1, none⟩ = some (.slice av l.length cap) := by rw [C4.cell]; rfl
       have f4 := C4.frozen 1)
    | fail)
  clear c1 c4 f4 C4
  have bA : Below W2.heap.size W2 (W2.alloc (.cells #[V64 n] 22)) := (Below.refl _ _).alloc (Nat.le_refl _) _
  obtain ⟨jN, kN, fN⟩ := JInv.added (W1 := Wd) HJ.out h8' hBw hn hc1 hc3 hnew (HM1.out.2.trans (HD.out.1.mono HM1.out.2.size)) (HM1.out.1.kp (F := []) (Kp.of_below [] HD.out.1) (by simp)) (Nat.le_refl _) HD.out.2.1 HD.out.2.2 bA hO' hg' hat
  have T5 : Has (W4.setCell ⟨jb, 1, none⟩ (.slice av' N cap')) (Wc.heap.size + 1) 80 (tv c Wc.heap.size) := by
    have hne : ∀ g, (Value.slice av l.length cap).ownBlock = some g → g ≠ Wc.heap.size + 1 := fun g hg => by
      have := HJ.out.lt g (mem_foot.2 (Or.inr (Or.inr (Or.inl hg))))
      omega
    have T4 : Has W4 (Wc.heap.size + 1) 80 (tv c Wc.heap.size) := (hg'.block _ (by have := T2.lt; simp; omega) (fun e => hne _ e.symm rfl)).trans (T2.alloc _)
    exact T4.kp (Kp.of_set W4 jb 1 _) (by have := HJ.out.lt jb (mem_foot.2 (Or.inl rfl)); simp; omega)
  have R5 : Has (W4.setCell ⟨jb, 1, none⟩ (.slice av' N cap')) W.heap.size 80 tz := by
    refine HK.out.1.kp kN (fun h => HF.out.1 _ h rfl)
  clear hg' hat hO' O2 C2 T2 bA hcn hgne
  generalize W4.setCell ⟨jb, 1, none⟩ (.slice av' N cap') = W5 at *
  go_wp2_with (first
    | (refine wpExec rfl (.agg (tv c Wc.heap.size)) (exec_load_row 80 (.tmp 7) (Wc.heap.size + 1) T5 Try.underlying80 rfl text_size rfl rfl) ?_)
    | (refine wpList_store_row rfl 80 (.tmp 6) (.tmp 50) rfl W.heap.size (tv c Wc.heap.size) rfl rfl 80 tz R5 text_size rfl (text_one _ _) ?_))
  have kR := Kp.of_row W5 W.heap.size (tv c Wc.heap.size)
  have hR : ∀ g, g ∈ foot jb (some m) (.slice av' N cap') (l ++ [newT n c Wc.heap.size]) → g ≠ W.heap.size := fun g hg => by
    rcases fN g hg with h | h
    · exact HF.out.1 g h
    · have := HF.out.2; omega
  refine bodyPost_ret (v := .agg (tv c Wc.heap.size)) (results_row0 rfl _ _ W.heap.size 80 (tv c Wc.heap.size) (0, 0) _ rfl (R5.setRow _) Try.underlying80 rfl text_size) rfl ⟨m, _, Wc.heap.size, rfl, jN.kp kR (fun g hg => by simp; exact hR g hg), (HK.out.2.trans kN (fun g hg hlt => by rcases hsub g hg with h | h; exact h; omega)).trans kR (fun g hg hlt => by simp at hg; omega), fun g hg => ?_⟩
  rcases fN g hg with h | h
  · exact hsub g h
  · right; have := HF.out.2; omega
set_option maxRecDepth 20000 in
set_option maxHeartbeats 1000000 in
theorem begin_full {B jb m : Nat} {W : World} {ov : Value} {l : List TX} (J : JInv B W jb (some m) ov l) (h8 : l.length = 8) (hB : B ≤ W.heap.size) (n c : Nat) (hn : n < 4294967296) (hc1 : 1 ≤ c) (hc3 : c ≤ 3) (hnew : ∀ u, u ∈ l → u.n ≠ n) :
    Calls Try.prog 34 #[.pointer (some ⟨jb, 0, none⟩), V64 n, .int .i64 (c : Int)] W fun e W' => ∃ m' ov' pb, e = .returned (.agg (tv c pb)) ∧ JInv B W' jb (some m') ov' (l.eraseIdx 0 ++ [newT n c pb]) ∧ Kp (foot jb (some m) ov l) W W' ∧ (∀ g, g ∈ foot jb (some m') ov' (l.eraseIdx 0 ++ [newT n c pb]) → g ∈ foot jb (some m) ov l ∨ W.heap.size ≤ g) := by
  obtain ⟨i0, hi, hz0, hz1, hz2⟩ := info_parts u64_info
  have J0 := J.step ((Below.refl W.heap.size W).alloc (Nat.le_refl _) (.cells tz 80))
  have R0 : Has (W.alloc (.cells tz 80)) W.heap.size 80 tz := Has.fresh W _ _
  have K0 : Kp (foot jb (some m) ov l) W (W.alloc (.cells tz 80)) := Kp.of_below _ ((Below.refl W.heap.size W).alloc (Nat.le_refl _) _)
  have s0 : W.heap.size + 1 ≤ (W.alloc (.cells tz 80)).heap.size := by simp
  have r0F : ∀ g, g ∈ foot jb (some m) ov l → g ≠ W.heap.size := fun g hg => by have := J.lt g hg; omega
  obtain ⟨av, cap, hov⟩ := J.own.form
  rw [List.length_map] at hov
  have t8 : ((l.length : Int) == 8) = true := by rw [beq_iff_eq]; omega
  obtain ⟨g, cap', he, _, _, _, hcell, _⟩ := J0.own.parts (by rw [List.length_map]; omega)
  rw [hov] at he
  injection he with he1 he2 he3
  subst he1
  subst hov
  have c1 : (W.alloc (.cells tz 80)).cell? ⟨jb, 1, none⟩ = some (.slice (some ⟨g, 0, none⟩) l.length cap) := by rw [J0.cell.cell]; rfl
  have c2 : (W.alloc (.cells tz 80)).cell? ⟨g, 0, none⟩ = some (V64 (l[0]'(by omega)).n) := by
    have hl0 : 0 < (l.map fun t => V64 t.n).length := by rw [List.length_map]; omega
    rw [hcell 0 hl0, List.getD_eq_getElem?_getD, List.getElem?_eq_getElem hl0, List.getElem_map]
    rfl
  have hdrop := drop_any J0 0 (by omega)
  have HD0 := Lib.hid hdrop
  obtain ⟨n0, hn0⟩ : ∃ n0, (l[0]'(by omega)).n = n0 := ⟨_, rfl⟩
  rw [hn0] at c2 HD0
  have t9 : (0 : Int) < (l.length : Int) := by omega
  clear hcell hdrop hn0 he2 he3
  go_enter Try.func34, Try.ntmps34
  go_upto_region 1 with fail
  change Code.wp _ _ _ _ (W.alloc (.cells tz 80))
  generalize W.alloc (.cells tz 80) = Wb at *
  have HH := Lib.hid (And.intro R0 (And.intro K0 (And.intro s0 r0F)))
  have HJb := Lib.hid J0
  clear R0 K0 s0 r0F J0
  go_wp2_with fail
  refine HD0.out.mono ?_
  rintro e Wc ⟨rfl, ov1, J0, hov1, k1⟩
  obtain ⟨R0, K0, s0, r0F⟩ := HH.out
  have hl1 : (l.eraseIdx 0).length = 7 := by rw [List.length_eraseIdx_of_lt (by omega)]; omega
  have hsubl : (l.eraseIdx 0).Sublist l := List.eraseIdx_sublist l 0
  have hnew1 : ∀ u, u ∈ l.eraseIdx 0 → u.n ≠ n := fun u hu => hnew u (hsubl.subset hu)
  have hft1 : ∀ g', g' ∈ foot jb (some m) ov1 (l.eraseIdx 0) → g' ∈ foot jb (some m) (.slice (some ⟨g, 0, none⟩) l.length cap) l := (foot_sub hov1 hsubl).subset
  have R1 := R0.kp k1 (fun h => by
    simp at h
    rcases h with h | h | h
    · exact r0F jb (mem_foot.2 (Or.inl rfl)) h.symm
    · exact r0F m (mem_foot.2 (Or.inr (Or.inl rfl))) h.symm
    · exact r0F g (mem_foot.2 (Or.inr (Or.inr (Or.inl rfl)))) (Option.some.inj h))
  have K1 : Kp (foot jb (some m) (.slice (some ⟨g, 0, none⟩) l.length cap) l) W Wc := K0.trans k1 (fun g' hg' _ => by
    simp at hg'
    rcases hg' with h | h | h
    · exact mem_foot.2 (Or.inl h)
    · exact mem_foot.2 (Or.inr (Or.inl (congrArg some h.symm)))
    · exact mem_foot.2 (Or.inr (Or.inr (Or.inl h))))
  have s1 := Nat.le_trans s0 k1.size
  have r1F : ∀ g', g' ∈ foot jb (some m) ov1 (l.eraseIdx 0) → g' ≠ W.heap.size := fun g' hg' => r0F g' (hft1 g' hg')
  clear R0 K0 s0 r0F HH HJb HD0 hsubl c1 c2 k1 hov1 t9
  have R0 := R1
  clear R1
  have K0 := K1
  clear K1
  have s0 := s1
  clear s1
  have r0F := r1F
  clear r1F
  obtain ⟨av, cap2, hov⟩ := J0.own.form
  rw [List.length_map] at hov
  have h8' : (l.eraseIdx 0).length ≤ 7 := by omega
  have hlF := Lib.hid hl1
  clear hl1
  generalize hLL : l.eraseIdx 0 = L at *
  have hnewo := hnew
  clear hnew
  have hnew := hnew1
  clear hnew1
  subst hov
  have hnm := map_some m Wc
  have hmm := @run_makeMap Try.prog
  have hBw : B ≤ Wc.heap.size := by have := K0.size; omega
  have c0 : Wc.cell? ⟨jb, 0, none⟩ = some (.map (some m)) := by rw [J0.cell.cell]; rfl
  have HJ := Lib.hid J0
  have HK := Lib.hid (And.intro R0 K0)
  have HF := Lib.hid (And.intro r0F s0)
  clear J0 R0 K0 r0F s0
  go_upto_region 6 with fail
  clear c0
  have M1 : MapH .i64 3 ((Wc.alloc (.map #[] 0)).alloc (.cells (tv c Wc.heap.size) 80)) Wc.heap.size (fun _ => none) 0 := (MapH.empty .i64 3 Wc).kp (F := []) (Kp.of_below [] ((Below.refl _ _).alloc (Nat.le_refl _) _)) (by simp)
  have T1 : Has ((Wc.alloc (.map #[] 0)).alloc (.cells (tv c Wc.heap.size) 80)) (Wc.heap.size + 1) 80 (tv c Wc.heap.size) := by
    have := Has.fresh (Wc.alloc (.map #[] 0)) 80 (tv c Wc.heap.size)
    simpa using this
  have B1 : Below Wc.heap.size Wc ((Wc.alloc (.map #[] 0)).alloc (.cells (tv c Wc.heap.size) 80)) := ((Below.refl _ _).alloc (Nat.le_refl _) _).alloc (by simp) _
  change Code.wp _ _ _ _ ((Wc.alloc (.map #[] 0)).alloc (.cells (tv c Wc.heap.size) 80))
  generalize (Wc.alloc (.map #[] 0)).alloc (.cells (tv c Wc.heap.size) 80) = W1 at M1 T1 B1 ⊢
  have J1 := HJ.out.step B1
  have HM1 := Lib.hid (And.intro M1 B1)
  clear M1 B1
  refine wp_region_noPanic ?_
  refine wp_region_flow (fin := ?fin3) 6 1 (by kernel_rfl) [.inl (.pointer (some ⟨jb, 0, none⟩)),
    .inl (.pointer (some ⟨jb, 0, none⟩)),
    .inl (.pointer (some ⟨jb, 0, none⟩)),
    .inl (.map (some m)),
    .inl (V64 n),
    .inl (.agg (tv c Wc.heap.size))] rfl rfl (by kernel_rfl) ?hfin3 ?hE3 ?hend3
  case hfin3 =>
    intro G
    simp only [flowAll, flowVal, Act.put, List.setIfInBounds_toArray, List.set_cons_zero, List.set_cons_succ]
    exact rfl
  case hE3 =>
    intro G
    refine ⟨Or.inr (fun W hB hR => known_val rfl (by go_simp)),
      Or.inr (fun W hB hR => known_val rfl (by go_simp)),
      Or.inr (fun W hB hR => known_val rfl (by go_simp)),
      Or.inr (fun W hB hR => known_val rfl (by have cc : W.cell? ⟨jb, 0, none⟩ = some (.map (some m)) := (by rw [(JInv.step (W := W1.drew) ⟨J1.cell, J1.own, J1.nomap, J1.map, J1.tx, J1.good, J1.ns, J1.len, J1.apart, J1.base⟩ hB).cell.cell]; rfl); go_simp)),
      Or.inr (fun W hB hR => known_val rfl (by go_simp)),
      Or.inr (fun W hB hR => known_val rfl (by exact exec_load_row 80 (.tmp 7) (Wc.heap.size + 1) (Has.below (w := W1.drew) T1 hB T1.lt) Try.underlying80 rfl text_size rfl rfl)), trivial⟩
  intro G Wd hBd hM
  have bd : Below W1.heap.size W1 Wd := ⟨hBd.os, hBd.tape, hBd.output, hBd.size, hBd.block⟩
  have Jd := J1.step bd
  have Td := Has.below T1 bd T1.lt
  have hmF : txF L n = none := txF_none hnew
  obtain ⟨W2, hrun, hm2, hg2⟩ := MapH.put Try.underlying22 (Jd.map m rfl) map_texts (by have := Jd.len; omega) n (wf_n hn) (.agg (tv c Wc.heap.size))
  rw [hmF] at hm2
  simp only [Option.isSome_none, Bool.false_eq_true, if_false] at hm2
  have k2 := Kp.of_grown hg2
  have T1F : Wc.heap.size + 1 ≠ m := by
    have := HJ.out.lt m (mem_foot.2 (Or.inr (Or.inl rfl)))
    omega
  have T2 := Td.kp k2 (by simp; exact T1F)
  have C2 := Jd.cell.kp k2 (by simp; exact fun e => Jd.apart.1 m rfl e.symm)
  have O2 := Jd.own.kp k2 (fun g hg => by simp; exact fun e => Jd.apart.2.2.2.1 m g rfl hg e.symm)
  have HD := Lib.hid (And.intro bd (And.intro hm2 k2))
  have HA := Lib.hid Jd.apart
  clear hBd hM Jd Td hm2 k2 hmF J1 T1 T1F bd hg2
  refine only0 6 W2 _ (by kernel_rfl) rfl rfl rfl (by go_simp) ?_
  clear hrun
  refine wpAny_end (by kernel_rfl) ?_ _
  refine NoPanic.normal ?_
  have c1 : W2.cell? ⟨jb, 1, none⟩ = some (.slice av L.length cap2) := by rw [C2.cell]; rfl
  have hcn := (Has.fresh W2 22 #[V64 n]).cell 0
  have hlen := HJ.out.len
  have hsz : Wc.heap.size ≤ W2.heap.size := Nat.le_trans HM1.out.2.size (Nat.le_trans HD.out.1.size HD.out.2.2.size)
  have hgne : ∀ g, (Value.slice av L.length cap2).ownBlock = some g → g ≠ jb := HA.out.2.1
  go_upto_region 8 with (first
    | (refine wpList_appR Try.underlying39 hi hz0 hz1 hz2 rfl (by omega) rfl (.tmp 44) (.tmp 46) rfl (v := .slice av L.length cap2) rfl (O2.alloc _) W2.heap.size 1 (V64 n) rfl hcn rfl (by rw [List.length_map]; omega) (by simp; omega) ?_
       intro ov' W4 hO' hg' hat
       obtain ⟨av', cap', hov'⟩ := hO'.form
       generalize ((L.map fun t => V64 t.n) ++ [V64 n]).length = N at hov'
       subst hov'
       have C4 : Has W4 jb 41 #[.map (some m), .slice av L.length cap2] := (hg'.block jb (by have := C2.lt; simp; omega) (fun e => hgne jb e.symm rfl)).trans (C2.alloc _)
       have c4 : W4.cell? ⟨jb, 1, none⟩ = some (.slice av L.length cap2) := by rw [C4.cell]; rfl
       have f4 := C4.frozen 1)
    | fail)
  clear c1 c4 f4 C4
  have bA : Below W2.heap.size W2 (W2.alloc (.cells #[V64 n] 22)) := (Below.refl _ _).alloc (Nat.le_refl _) _
  obtain ⟨jN, kN, fN⟩ := JInv.added (W1 := Wd) HJ.out h8' hBw hn hc1 hc3 hnew (HM1.out.2.trans (HD.out.1.mono HM1.out.2.size)) (HM1.out.1.kp (F := []) (Kp.of_below [] HD.out.1) (by simp)) (Nat.le_refl _) HD.out.2.1 HD.out.2.2 bA hO' hg' hat
  have T5 : Has (W4.setCell ⟨jb, 1, none⟩ (.slice av' N cap')) (Wc.heap.size + 1) 80 (tv c Wc.heap.size) := by
    have hne : ∀ g, (Value.slice av L.length cap2).ownBlock = some g → g ≠ Wc.heap.size + 1 := fun g hg => by
      have := HJ.out.lt g (mem_foot.2 (Or.inr (Or.inr (Or.inl hg))))
      omega
    have T4 : Has W4 (Wc.heap.size + 1) 80 (tv c Wc.heap.size) := (hg'.block _ (by have := T2.lt; simp; omega) (fun e => hne _ e.symm rfl)).trans (T2.alloc _)
    exact T4.kp (Kp.of_set W4 jb 1 _) (by have := HJ.out.lt jb (mem_foot.2 (Or.inl rfl)); simp; omega)
  have R5 : Has (W4.setCell ⟨jb, 1, none⟩ (.slice av' N cap')) W.heap.size 80 tz := by
    refine HK.out.1.kp kN (fun h => HF.out.1 _ h rfl)
  clear hg' hat hO' O2 C2 T2 bA hcn hgne
  generalize W4.setCell ⟨jb, 1, none⟩ (.slice av' N cap') = W5 at *
  go_wp2_with (first
    | (refine wpExec rfl (.agg (tv c Wc.heap.size)) (exec_load_row 80 (.tmp 7) (Wc.heap.size + 1) T5 Try.underlying80 rfl text_size rfl rfl) ?_)
    | (refine wpList_store_row rfl 80 (.tmp 6) (.tmp 50) rfl W.heap.size (tv c Wc.heap.size) rfl rfl 80 tz R5 text_size rfl (text_one _ _) ?_))
  have kR := Kp.of_row W5 W.heap.size (tv c Wc.heap.size)
  have hR : ∀ g, g ∈ foot jb (some m) (.slice av' N cap') (L ++ [newT n c Wc.heap.size]) → g ≠ W.heap.size := fun g hg => by
    rcases fN g hg with h | h
    · exact HF.out.1 g h
    · have := HF.out.2; omega
  subst hLL
  refine bodyPost_ret (v := .agg (tv c Wc.heap.size)) (results_row0 rfl _ _ W.heap.size 80 (tv c Wc.heap.size) (0, 0) _ rfl (R5.setRow _) Try.underlying80 rfl text_size) rfl ⟨m, _, Wc.heap.size, rfl, jN.kp kR (fun g hg => by simp; exact hR g hg), (HK.out.2.trans kN (fun g hg hlt => hft1 g hg)).trans kR (fun g hg hlt => by simp at hg; omega), fun g hg => ?_⟩
  rcases fN g hg with h | h
  · exact Or.inl (hft1 g h)
  · right; have := HF.out.2; omega
/-- begin, whatever the joiner -/
def roomL (l : List TX) : List TX := if l.length = 8 then l.eraseIdx 0 else l
theorem begin_any {B jb : Nat} {mb : Option Nat} {W : World} {ov : Value} {l : List TX} (J : JInv B W jb mb ov l) (hB : B ≤ W.heap.size) (n c : Nat) (hn : n < 4294967296) (hc1 : 1 ≤ c) (hc3 : c ≤ 3) (hnew : ∀ u, u ∈ l → u.n ≠ n) :
    Calls Try.prog 34 #[.pointer (some ⟨jb, 0, none⟩), V64 n, .int .i64 (c : Int)] W fun e W' => ∃ m' ov' pb, e = .returned (.agg (tv c pb)) ∧ JInv B W' jb (some m') ov' (roomL l ++ [newT n c pb]) ∧ Kp (foot jb mb ov l) W W' ∧ (∀ g, g ∈ foot jb (some m') ov' (roomL l ++ [newT n c pb]) → g ∈ foot jb mb ov l ∨ W.heap.size ≤ g) := by
  unfold roomL
  cases mb with
  | none =>
    rw [if_neg (by rw [J.nomap rfl]; simp)]
    exact begin_none J hB n c hn hc1 hc3 hnew
  | some m =>
    by_cases h : l.length = 8
    · rw [if_pos h]
      exact begin_full J h hB n c hn hc1 hc3 hnew
    · rw [if_neg h]
      exact begin_some J (by have := J.len; omega) hB n c hn hc1 hc3 hnew
end Go.Proofs.Ythpbhimmfmablaa
