/- slices.Index and slices.Delete at []uint64: walked. -/
import Derived.Test.YthpbhimmfmablaaTUM
import Derived.Test.YthpbhimmfmablaaHG
import Derived.Test.YthpbhimmfmablaaHF
import Derived.Lib.SliceRun
namespace Go.Proofs.Ythpbhimmfmablaa
open Go.RowKit
abbrev V64 (n : Nat) : Value := .int .u64 (n : Int)
set_option maxRecDepth 20000 in
set_option maxHeartbeats 1000000 in
theorem index_any (l : List Nat) (hl : l.length ≤ 1000) (g cap : Nat) (w : World) (hc : ∀ j, j < l.length → w.cell? ⟨g, j, none⟩ = some (V64 (l.getD j 0))) (x i : Nat) (hi : i < l.length) (hx : l.getD i 0 = x) (hn : ∀ j, j < i → l.getD j 0 ≠ x) :
    Calls Try.prog 40 #[.slice (some ⟨g, 0, none⟩) l.length cap, V64 x] w fun e w' => e = .returned (.int .i64 (i : Int)) ∧ w' = w := by
  obtain ⟨v, hv⟩ : ∃ v : Nat → Nat, ∀ k, l.getD k 0 = v k := ⟨fun k => l.getD k 0, fun _ => rfl⟩
  simp only [hv] at hc hx hn
  generalize l.length = n at *
  have HC := Lib.hid hc
  have HN := Lib.hid hn
  have HX := Lib.hid hx
  clear hc hn hv hx
  go_enter Try.func40, Try.ntmps40
  go_wp2
  go_loop [8] (fun c => ∃ k : Nat, k ≤ i ∧ c = .int .i64 (k : Int)) (fun c => n - (intOf c).toNat)
  case atStart => exact ⟨0, by omega, rfl⟩
  case round =>
    obtain ⟨k, hk, rfl⟩ := hrel
    have t1 : decide ((k : Int) < (n : Int)) = true := by simp; omega
    have t2 : (k : Int) < (n : Int) := by omega
    have hcell := HC.out k (by omega)
    by_cases hlt : k < i
    · have hne := HN.out k hlt
      generalize v k = y at hcell hne
      have t3 : ((x : Int) == (y : Int)) = false := by rw [beq_eq_false_iff_ne]; omega
      go_wp2
      refine ⟨⟨k + 1, by omega, by go_num⟩, by simp [intOf]; omega⟩
    · have hki : k = i := by omega
      subst hki
      rw [HX.out] at hcell
      go_wp2
      go_ret
      exact ⟨rfl, rfl⟩
/-- one operation alone may come up, and yields a value -/
theorem onlyV0 {P : Program} {ops : Array Oper} {Q : Exit → Act → World → Prop} {md : Region.Mode} {fuel : Nat} {listed : Array Bool} {a : Act} {w : World} (i d : Nat) (v : Value) (w' : World) (o : Oper) (hr : Region.ready md ops listed = [i]) (hi : ops[i]? = some o)
    (hw : Region.wanted o (yielded ops a.tmps) = true) (hd : o.dst = some d) (hex : (execOp a.eval o).run P w = .ok (.value v) w')
    (h : wpAny P md ops Q fuel (listed.setIfInBounds i true) (a.put (some d) v) w') : wpAny P md ops Q (fuel + 1) listed a w := by
  refine ⟨fun h => (by rw [hr] at h; cases h), fun j hm => ?_⟩
  rw [hr] at hm
  simp only [List.mem_singleton] at hm
  subst hm
  unfold wpOp
  simp only [hi, hw, if_true]
  left
  unfold Oper.wp
  rw [hex]
  show wpAny P md ops Q fuel _ (a.put o.dst v) w'
  rw [hd]; exact h
theorem u64_info : (Try.prog.info? 22).map (fun i => (i.zero, i.size, i.bytes)) = some (some (.int .u64 0), 1, 8) := by kernel_rfl
theorem exec_append {o : Oper} {ev : Operand → Value} {w w' : World} {v : Value} (s x : Operand) (t : TypeId) (a b : Value) (ho : o.op = .call { callee := .builtin .append, args := #[s, x], argTypes := #[t, t] }) (hs : ev s = a) (hx : ev x = b)
    (hr : ∀ ty, (Builtin.append_ #[t, t] ty #[a, b]).run Try.prog w = .ok v w') : (execOp ev o).run Try.prog w = .ok (.value v) w' := by
  unfold execOp
  simp only [ho, resolve, invoke, builtin, Sem.run_bind, Sem.run_pure, Result.andThen_ok, List.map_toArray, List.map_cons, List.map_nil, hs, hx, hr]
/-- what slices.Delete does to the row, in two steps -/
theorem delete_row (l : List Nat) (base g cap : Nat) (w : World) (hO : OwR 22 base w (.slice (some ⟨g, 0, none⟩) l.length cap) (l.map V64)) (i : Nat) (hi : i < l.length) :
    ∃ A W1 W2, (if cap = i + 1 then some (⟨g, 0, none⟩ : Addr) else some ⟨g, i + 1, none⟩) = some A ∧
      (∀ ty, (Builtin.append_ #[39, 39] ty #[.slice (some ⟨g, 0, none⟩) i cap, .slice (some A) (l.length - (i + 1)) (cap - (i + 1))]).run Try.prog w = .ok (.slice (some ⟨g, 0, none⟩) (l.length - 1) cap) W1) ∧
      (∀ ty, (Builtin.clear_ #[39] ty #[.slice (some ⟨g, l.length - 1, none⟩) 1 (cap - (l.length - 1))]).run Try.prog W1 = .ok (.tuple #[]) W2) ∧
      OwR 22 base W2 (.slice (some ⟨g, 0, none⟩) (l.length - 1) cap) ((l.eraseIdx i).map V64) ∧ Kp [g] w W2 := by
  obtain ⟨i0, hi0, hz0, hz1, hz2⟩ := info_parts u64_info
  obtain ⟨hlen, h2⟩ := hO
  rcases h2 with ⟨_, h0⟩ | ⟨g', cap', cur, he, hbg, hg, hnc, hcm, hcs, htk⟩
  · rw [List.length_map] at h0; omega
  injection he with he1 he2 he3
  injection he1 with he1
  injection he1 with he1
  subst he1
  subst he3
  rw [List.length_map] at hnc
  rw [Nat.mul_one] at hcs
  rw [List.length_map, Nat.mul_one] at htk
  obtain ⟨n, hn⟩ : ∃ n, l.length = n := ⟨_, rfl⟩
  have hcl : cur.toList.length = cap := by rw [Array.length_toList, hcs]
  -- what is moved
  obtain ⟨news, hnews⟩ : ∃ news, news = (l.drop (i + 1)).map V64 := ⟨_, rfl⟩
  have hnl : news.length = n - (i + 1) := by rw [hnews, List.length_map, List.length_drop, hn]
  have hcur : cur.toList = l.map V64 ++ cur.toList.drop n := by
    conv => lhs; rw [← List.take_append_drop n cur.toList]
    rw [← hn, htk]
  obtain ⟨A, hA, hsrc⟩ : ∃ A : Addr, (if cap = i + 1 then some (⟨g, 0, none⟩ : Addr) else some ⟨g, i + 1, none⟩) = some A ∧ ∀ t u, news[t]? = some u → w.cell? (A.add t) = some u := by
    by_cases h : cap = i + 1
    · refine ⟨⟨g, 0, none⟩, by simp [h], fun t u hu => ?_⟩
      have h0 : news.length = 0 := by rw [hnl]; omega
      rw [List.length_eq_zero_iff.1 h0] at hu
      simp at hu
    · refine ⟨⟨g, i + 1, none⟩, by simp [h], fun t u hu => ?_⟩
      rw [Addr.add_lit]
      have hc := cell_of_row w g (i + 1 + t) cur 22 (0, 0) hg
      rw [hc]
      have hu2 : (l.map V64)[i + 1 + t]? = some u := by rw [hnews, List.map_drop, List.getElem?_drop] at hu; exact hu
      have hlt := (List.getElem?_eq_some_iff.1 hu2).1
      rw [← Array.getElem?_toList, hcur, List.getElem?_append_left hlt]
      exact hu2
  have hone : ∀ u ∈ news, u.oneCell' = true := by
    intro u hu
    rw [hnews] at hu
    obtain ⟨x, _, rfl⟩ := List.mem_map.1 hu
    rfl
  have hrun := fun ty => run_append_room (P := Try.prog) w 39 ty 22 i0 Try.underlying39 hi0 g i cap cur hg A (n - (i + 1)) (cap - (i + 1)) news (by rw [hz1, hnl, Nat.mul_one]) hsrc hone (by omega) (by rw [hz1, hnl, hcs]; omega)
  rw [hz1, Nat.mul_one, hnl] at hrun
  obtain ⟨C1, hC1⟩ : ∃ C1 : Array Value, (cur.toList.take i ++ news ++ cur.toList.drop (i + (n - (i + 1)))).toArray = C1 := ⟨_, rfl⟩
  rw [hC1] at hrun
  have hN : i + (n - (i + 1)) = n - 1 := by omega
  rw [hN] at hrun hC1
  have hW1 := setRow_heap w g cur C1 22 _ hg
  have hC1l : C1.toList = (l.eraseIdx i).map V64 ++ cur.toList.drop (n - 1) := by
    rw [← hC1]
    show cur.toList.take i ++ news ++ cur.toList.drop (n - 1) = _
    rw [List.eraseIdx_eq_take_drop_succ, List.map_append, ← hnews]
    congr 2
    conv => lhs; rw [hcur]
    rw [List.take_append_of_le_length (by rw [List.length_map]; omega), List.map_take]
  have hel : ((l.eraseIdx i).map V64).length = n - 1 := by rw [List.length_map, List.length_eraseIdx_of_lt hi, hn]
  have hC1s : C1.size = cap := by
    rw [← Array.length_toList, hC1l, List.length_append, hel, List.length_drop, hcl]; omega
  have hHas : Has (w.setRow g C1) g 22 C1 := hW1
  have hKp : Kp [g] w (w.setRow g C1) := Kp.of_row w g C1
  generalize w.setRow g C1 = W1 at hrun hHas hKp
  have hclr : ∀ ty, (Builtin.clear_ #[39] ty #[.slice (some ⟨g, n - 1, none⟩) 1 (cap - (n - 1))]).run Try.prog W1 = .ok (.tuple #[]) (W1.setCells g (n - 1) (List.replicate 1 (.int .u64 0))) :=
    fun ty => Lib.run_clear_slice W1 _ _ ty _ Try.underlying39 Try.zeroValue22 rfl rfl g (n - 1) 1 _ (by omega) (fun t ht => by
      obtain rfl : t = 0 := by omega
      rw [Nat.add_zero, hHas.cell]
      simp [hC1s]; omega) (fun t _ => hHas.frozen _)
  have hcell : W1.setCells g (n - 1) (List.replicate 1 (.int .u64 0)) = W1.setCell ⟨g, n - 1, none⟩ (.int .u64 0) := rfl
  rw [hcell] at hclr
  have hHas2 := hHas.set (n - 1) (.int .u64 0)
  have hKp2 : Kp [g] w (W1.setCell ⟨g, n - 1, none⟩ (.int .u64 0)) := hKp.trans (Kp.of_set W1 g (n - 1) _) (fun _ h _ => h)
  generalize W1.setCell ⟨g, n - 1, none⟩ (.int .u64 0) = W2 at hclr hHas2 hKp2
  have hres : OwR 22 base W2 (.slice (some ⟨g, 0, none⟩) (n - 1) cap) ((l.eraseIdx i).map V64) := by
    unfold OwR
    rw [hel]
    refine ⟨by rw [hel, Nat.mul_one], Or.inr ⟨g, cap, _, rfl, hbg, hHas2, by omega, hcm, by rw [Array.size_setIfInBounds, hC1s, Nat.mul_one], ?_⟩⟩
    rw [Nat.mul_one, Array.toList_setIfInBounds, List.take_set_of_le (Nat.le_refl _), hC1l, List.take_left' hel]
  rw [hn]
  exact ⟨A, W1, W2, hA, hrun, hclr, hres, hKp2⟩
set_option maxRecDepth 20000 in
set_option maxHeartbeats 1000000 in
theorem delete_any (l : List Nat) (base g cap : Nat) (hcap : cap ≤ maxLen) (w : World) (hlc : l.length ≤ cap) (hO : OwR 22 base w (.slice (some ⟨g, 0, none⟩) l.length cap) (l.map V64)) (i : Nat) (hi : i < l.length) :
    Calls Try.prog 41 #[.slice (some ⟨g, 0, none⟩) l.length cap, .int .i64 (i : Int), .int .i64 ((i : Int) + 1)] w fun e w' =>
      e = .returned (.slice (some ⟨g, 0, none⟩) (l.length - 1) cap) ∧ OwR 22 base w' (.slice (some ⟨g, 0, none⟩) (l.length - 1) cap) ((l.eraseIdx i).map V64) ∧ Kp [g] w w' := by
  have hd := fun W (h : OwR 22 base W (.slice (some ⟨g, 0, none⟩) l.length cap) (l.map V64)) => delete_row l base g cap W h i hi
  generalize (l.eraseIdx i).map V64 = R at *
  generalize l.map V64 = R0 at *
  generalize l.length = n at *
  have HO := Lib.hid hO
  have HD := Lib.hid hd
  clear hO hd
  have hji : (i : Int) + 1 ≤ (n : Int) := by omega
  have hj0 : ¬ (i : Int) + 1 < 0 := by omega
  have h5 : ¬ cap < i := by omega
  have h6 : i + 1 ≤ cap := by omega
  have hcap2 : cap ≤ 9223372036854775807 := by unfold maxLen at hcap; omega
  obtain ⟨A, hA⟩ : ∃ A : Addr, (if cap = i + 1 then some (⟨g, 0, none⟩ : Addr) else some ⟨g, i + 1, none⟩) = some A := by
    by_cases h : cap = i + 1
    · exact ⟨_, if_pos h⟩
    · exact ⟨_, if_neg h⟩
  go_enter Try.func41, Try.ntmps41
  go_wp2
  refine wp_region_noPanic ?_
  refine wp_region_flow (fin := ?fin1) 6 2 (by kernel_rfl) [.inl (.slice (some ⟨g, 0, none⟩) n cap),
    .inl (.int .i64 (i : Int)),
    .inl (.slice (some ⟨g, 0, none⟩) i cap),
    .inl (.slice (some ⟨g, 0, none⟩) n cap),
    .inl (.int .i64 ((i : Int) + 1)),
    .inl (.slice (some A) (n - (i + 1)) (cap - (i + 1)))] rfl rfl (by kernel_rfl) ?hfin1 ?hE1 ?hend1
  case hfin1 =>
    intro G
    simp only [flowAll, flowVal, Act.put, List.setIfInBounds_toArray, List.set_cons_zero, List.set_cons_succ]
    exact rfl
  case hE1 =>
    intro G
    refine ⟨Or.inr (fun W hB hR => known_val rfl (by go_simp)),
      Or.inr (fun W hB hR => known_val rfl (by go_simp)),
      Or.inr (fun W hB hR => known_val rfl (by go_simp)),
      Or.inr (fun W hB hR => known_val rfl (by go_simp)),
      Or.inr (fun W hB hR => known_val rfl (by go_simp)),
      Or.inr (fun W hB hR => known_val rfl (by go_simp)), trivial⟩
  intro G W hB hM
  obtain ⟨A', W1, W2, hA', hrun, hclr, hres, hkp⟩ := HD.out W (OwR.step (W := w.drew) HO.out hB)
  rw [hA] at hA'
  injection hA' with hA'
  subst hA'
  have hkp2 : Kp [g] w W2 := (Kp.of_below [g] (⟨hB.os, hB.tape, hB.output, hB.size, hB.block⟩ : Below w.heap.size w W)).trans hkp (fun _ h _ => h)
  have HR := Lib.hid (And.intro hres hkp2)
  have HCL := Lib.hid hclr
  clear hB hM hA hres hkp hkp2 hclr HD HO
  refine onlyV0 6 26 (.slice (some ⟨g, 0, none⟩) (n - 1) cap) W1 _ (by kernel_rfl) rfl rfl rfl (exec_append (.tmp 22) (.tmp 25) 39 _ _ rfl rfl rfl hrun) ?_
  clear hrun
  refine take0 7 0 (.slice (some ⟨g, 0, none⟩) (n - 1) cap) _ rfl (by kernel_rfl) (by kernel_rfl) (by kernel_rfl) (fun _ _ _ h => h) rfl rfl (fun w' => by go_simp) ?_
  refine wpAny_end (by kernel_rfl) ?_ _
  refine NoPanic.normal ?_
  have hclr := HCL.out
  have h7 : ¬ cap = n - 1 := by omega
  have h8 : n - 1 ≤ n := by omega
  have h9 : n - (n - 1) = 1 := by omega
  have h10 : n ≤ cap := hlc
  have h11 : ((n - 1 : Nat) : Int) ≤ (n : Int) := by omega
  go_wp2
  go_ret
  exact ⟨rfl, HR.out⟩
end Go.Proofs.Ythpbhimmfmablaa
