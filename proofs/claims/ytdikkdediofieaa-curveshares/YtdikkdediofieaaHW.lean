/- A flow ahead of a gate; stores ahead of a gate and at it; many blocks that a flow has made. No program is run here. -/
import Derived.Test.YtdikkdediofieaaHM
import Derived.Test.YtdikkdediofieaaHG
namespace Go.Proofs.Ytdikkdediofieaa
open Go.RowKit
section
variable {P : Program} {ops : Array Oper} {Q : Exit → Act → World → Prop} {md : Region.Mode}
theorem wpAnyG_flow {S : World → Prop} {c : Nat} {ss : List FlowV} {a0 : Act} {w : World} {pre : List Nat} (hok : FlowSpec md ops ss.length pre) (hE : ∀ G, FlowEach P ops (flowAll G 0 ops.toList ss a0) w pre 0 ops.toList ss)
    (hS : ∀ W, Below w.heap.size w W → S W)
    (hend : ∀ G W, Below w.heap.size w W → Made G w.heap.size ss (flowMarks ss.length (ops.size - ss.length)) W → wpAnyG P md ops Q S c (ops.size - ss.length) (flowMarks ss.length (ops.size - ss.length)) (flowAll G 0 ops.toList ss a0) W) :
    ∀ (k : Nat) (l : Array Bool) (a : Act) (W : World), (l.toList.take ss.length).count false = k → FlowInv md ops ss a0 w l a W pre → wpAnyG P md ops Q S c (ops.size - ss.length + k) l a W
  | 0, l, a, W, hc, hI => by
    obtain ⟨_, G, rfl, hB, hM, hs, hz, _⟩ := hI
    have hl := marks_done hs hok.le hz hc
    subst hl
    rw [flowPut_all 0 ops.toList ss _ a0 (fun j hj => by
      unfold flowMarks
      rw [List.getElem?_append_left (by simpa using hj), List.getElem?_replicate, if_pos hj])]
    exact hend G W hB hM
  | k + 1, l, a, W, hc, hI => by
    have hs : l.size = ops.size := by obtain ⟨_, _, _, _, _, hs, _⟩ := hI; exact hs
    have hSh : Shut md ops l := by obtain ⟨_, _, _, _, _, _, _, hS⟩ := hI; exact hS
    have hnot : ¬ ∀ i, i < ss.length → l.getD i false = true := fun h => by
      have := count_zero (l := l.toList) (n := ss.length) (fun i hi => by rw [getD_true.1 (h i hi)]; simp)
      omega
    have hprog : Region.ready md ops l ≠ [] := by
      intro hr
      refine hnot (fun i => Nat.strongRecOn i ?_)
      intro i ih hi
      obtain ⟨o, ho, _, hle, _⟩ := hok.flow i hi
      have hlt : i < ops.size := (Array.getElem?_eq_some_iff.1 ho).1
      cases hb : l.getD i false with
      | true => rfl
      | false =>
        have hm : i ∈ Region.ready md ops l := ready_of (by simpa [Array.getD, hs, hlt] using hb) hlt (by
          rw [ho]
          simp only [Option.map_some, Option.getD_some, Array.all_eq_true_iff_forall_mem, Bool.or_eq_true, Bool.not_eq_true']
          intro e he
          cases hbi : Region.binds md e with
          | false => exact Or.inl rfl
          | true => exact Or.inr (ih e.on (hle e he hbi) (by have := hle e he hbi; omega)))
        rw [hr] at hm
        cases hm
    refine ⟨fun hr => absurd hr hprog, fun i hi => ?_⟩
    · by_cases hn : i < ss.length
      · refine wpOp_mono (fun a' W' h => ⟨fun _ => hS W' (by obtain ⟨_, _, _, hB, _⟩ := h; exact hB), ?_⟩) (flow_step hok hE hi hn hI)
        refine wpAnyG_flow hok hE hS hend k _ a' W' ?_ h
        obtain ⟨_, _, hf'⟩ := ready_true hi hs
        have := count_set_eq (l.toList.take ss.length) i (by rw [List.getElem?_take_of_lt hn]; exact hf')
        rw [Array.toList_setIfInBounds, List.take_set]
        omega
      · exact absurd (fun j hj => by
          by_cases hp : j ∈ pre
          · exact hI.1 j hp
          · exact hSh.far ops.size i j (fun k hk => ready_dep hi hk) (hok.tail i (by omega) (ready_lt hi) j hj hp)) hnot
theorem wpAnyG_flow_from {S : World → Prop} {c : Nat} {a0 : Act} {w : World} (ss : List FlowV) (pre : List Nat) (l0 : Array Bool) (fin : (Nat → Nat) → Act) (fuel : Nat) (hok : flowOk md ops ss.length pre = true) (hl0 : l0 = ((List.range ops.size).map fun i => pre.contains i).toArray)
    (hpre : pre.all (fun i => decide (i < ss.length) && (List.range ss.length).all (fun j => !waits md ops i j || pre.contains j) && match ss[i]? with | some (.inl _) => true | _ => false) = true)
    (hfuel : fuel = ops.size - ss.length + (l0.toList.take ss.length).count false)
    (hstart : flowPut (fun _ => 0) 0 ops.toList ss l0.toList a0 = a0) (hfin : ∀ G, flowAll G 0 ops.toList ss a0 = fin G)
    (hE : ∀ G, FlowEach P ops (fin G) w pre 0 ops.toList ss)
    (hS : ∀ W, Below w.heap.size w W → S W)
    (hend : ∀ G W, Below w.heap.size w W → Made G w.heap.size ss (flowMarks ss.length (ops.size - ss.length)) W → wpAnyG P md ops Q S c (ops.size - ss.length) (flowMarks ss.length (ops.size - ss.length)) (fin G) W) :
    wpAnyG P md ops Q S c fuel l0 a0 w := by
  have hok' := flowOk_spec hok
  rw [hfuel]
  simp only [List.all_eq_true, Bool.and_eq_true, decide_eq_true_eq, Bool.or_eq_true, Bool.not_eq_true', List.mem_range] at hpre
  have hg : ∀ i, l0.getD i false = true ↔ i < ops.size ∧ i ∈ pre := fun i => by
    rw [getD_true, hl0, List.getElem?_map]
    by_cases h : i < ops.size
    · rw [List.getElem?_eq_getElem (by simpa using h)]
      simp [h]
    · rw [List.getElem?_eq_none (by simpa using h)]
      simp [h]
  refine wpAnyG_flow (P := P) (Q := Q) hok' (fun G => by rw [hfin G]; exact hE G) hS (fun G W hB hM => by rw [hfin G]; exact hend G W hB hM) _ l0 a0 w rfl
    ⟨fun i hi => (hg i).2 ⟨Nat.lt_of_lt_of_le (hpre i hi).1.1 hok'.le, hi⟩, fun _ => 0, hstart.symm, Below.refl _ _, fun i t z hs h => ?_, by rw [hl0]; simp, fun i hi => ?_, fun i j h hw => ?_⟩
  · have h := (hpre i ((hg i).1 h).2).2
    rw [hs] at h
    simp at h
  · cases hb : l0.getD i false with
    | false => rfl
    | true =>
      have := (hpre i ((hg i).1 hb).2).1.1
      omega
  · have hi := (hg i).1 h
    obtain ⟨o, ho, _, hle, _⟩ := hok'.flow i (hpre i hi.2).1.1
    obtain ⟨e, he, hb, rfl⟩ := waits_edge ho hw
    have hlt := hle e he hb
    have hn := (hpre i hi.2).1.1
    rcases (hpre i hi.2).1.2 e.on (by omega) with h' | h'
    · rw [h'] at hw; cases hw
    · exact (hg e.on).2 ⟨by omega, by simpa using h'⟩
theorem wpAnyG_flow_pre {S : World → Prop} {c : Nat} {a0 : Act} {w : World} {l0 : Array Bool} {fuel : Nat} (n m : Nat) (pre : List Nat) (ss : List FlowV) (fin : (Nat → Nat) → Act) (hn : ss.length = n) (hnm : ops.size = n + m) (hok : flowOk .any ops n pre = true) (hl0 : l0 = ((List.range ops.size).map fun i => pre.contains i).toArray)
    (hpre : pre.all (fun i => decide (i < n) && (List.range n).all (fun j => !waits .any ops i j || pre.contains j) && match ss[i]? with | some (.inl _) => true | _ => false) = true)
    (hfuel : fuel = m + (l0.toList.take n).count false) (hstart : flowPut (fun _ => 0) 0 ops.toList ss l0.toList a0 = a0) (hS : ∀ W, Below w.heap.size w W → S W) (hfin : ∀ G, flowAll G 0 ops.toList ss a0 = fin G)
    (hE : ∀ G, FlowEach P ops (fin G) w pre 0 ops.toList ss)
    (hend : ∀ G W, Below w.heap.size w W → Made G w.heap.size ss (flowMarks n m) W → wpAnyG P .any ops Q S c m (flowMarks n m) (fin G) W) : wpAnyG P .any ops Q S c fuel l0 a0 w := by
  subst hn
  obtain rfl : m = ops.size - ss.length := by omega
  exact wpAnyG_flow_from ss pre l0 fin fuel hok hl0 hpre hfuel hstart hfin hE hS hend
/-- ahead of the gate one operation alone may come up, and yields nothing -/
theorem skipG {S : World → Prop} {c : Nat} {fuel : Nat} {listed : Array Bool} {a : Act} {w : World} (i : Nat) (w' : World) (o : Oper) (hr : Region.ready md ops listed = [i]) (hi : ops[i]? = some o)
    (hw : Region.wanted o (yielded ops a.tmps) = true) (hd : o.dst = none) (hex : (execOp a.eval o).run P w = .ok .skip w') (hS : S w')
    (h : wpAnyG P md ops Q S c fuel (listed.setIfInBounds i true) (a.put none undef) w') : wpAnyG P md ops Q S c (fuel + 1) listed a w := by
  refine ⟨fun h => (by rw [hr] at h; cases h), fun j hm => ?_⟩
  rw [hr] at hm
  simp only [List.mem_singleton] at hm
  subst hm
  unfold wpOp
  simp only [hi, hw, if_true]
  left
  unfold Oper.wp
  rw [hex]
  show _ ∧ wpAnyG P md ops Q S c fuel _ (a.put o.dst undef) w'
  rw [hd]
  exact ⟨fun _ => hS, h⟩
/-- the gate alone may come up, and yields nothing -/
theorem gateSkip {S : World → Prop} {c : Nat} {fuel : Nat} {listed : Array Bool} {a : Act} {w : World} (w' : World) (o : Oper) (hr : Region.ready md ops listed = [c]) (hi : ops[c]? = some o)
    (hw : Region.wanted o (yielded ops a.tmps) = true) (hd : o.dst = none) (hex : (execOp a.eval o).run P w = .ok .skip w')
    (h : wpAny P md ops Q fuel (listed.setIfInBounds c true) (a.put none undef) w') : wpAnyG P md ops Q S c (fuel + 1) listed a w := by
  refine ⟨fun h => (by rw [hr] at h; cases h), fun j hm => ?_⟩
  rw [hr] at hm
  simp only [List.mem_singleton] at hm
  subst hm
  unfold wpOp
  simp only [hi, hw, if_true]
  left
  unfold Oper.wp
  rw [hex]
  show _ ∧ wpAnyG P md ops Q S j fuel _ (a.put o.dst undef) w'
  rw [hd]
  exact ⟨fun h0 => (by rw [getD_set_same] at h0; cases h0), wpAnyG_of_any _ _ _ _ (getD_set_same _ _) h⟩
end
section
variable {w : World} {L : List MRow} {W W' : World}
theorem Mem.front {L' : List MRow} (M : Mem w (L ++ L') W) : Mem w L W := by
  have h : ∀ (i : Nat) (r : MRow), L[i]? = some r → (L ++ L')[i]? = some r := fun i r hi => by
    rw [List.getElem?_append_left (List.getElem?_eq_some_iff.1 hi).1]; exact hi
  exact ⟨fun i r hi => M.rows i r (h i r hi), fun i j r s hi hj hij => M.apart i j r s (h i r hi) (h j s hj) hij, fun i r hi => M.own i r (h i r hi), M.below⟩
/-- blocks that a flow has made -/
theorem Mem.mades (M : Mem w L W) (hb : Below W.heap.size W W') {G : Nat → Nat} {ss : List FlowV} {l : Array Bool} (h : Made G W.heap.size ss l W') (is : List (Nat × TypeId × Array Value))
    (hs : ∀ x ∈ is, ss[x.1]? = some (.inr x.2) ∧ l.getD x.1 false = true) (hd : (is.map (·.1)).Nodup) : Mem w (L ++ is.map fun x => (G x.1, x.2.1, x.2.2)) W' := by
  have M' := M.step hb
  have hn : ∀ (k : Nat) (r : MRow), (L ++ is.map fun x => (G x.1, x.2.1, x.2.2))[k]? = some r → (k < L.length ∧ L[k]? = some r) ∨ (L.length ≤ k ∧ ∃ x, is[k - L.length]? = some x ∧ r = (G x.1, x.2.1, x.2.2)) := fun k r hk => by
    rcases Nat.lt_or_ge k L.length with h1 | h1
    · rw [List.getElem?_append_left h1] at hk; exact Or.inl ⟨h1, hk⟩
    · rw [List.getElem?_append_right h1, List.getElem?_map] at hk
      cases hx : is[k - L.length]? with
      | none => rw [hx] at hk; cases hk
      | some x =>
        rw [hx] at hk
        simp only [Option.map_some, Option.some.injEq] at hk
        exact Or.inr ⟨h1, x, rfl, hk.symm⟩
  have hm : ∀ (k : Nat) (x : Nat × TypeId × Array Value), is[k]? = some x → W.heap.size ≤ G x.1 ∧ Has W' (G x.1) x.2.1 x.2.2 := fun k x hx => by
    obtain ⟨h1, h2⟩ := hs x (List.mem_of_getElem? hx)
    exact ⟨(h x.1 x.2.1 x.2.2 h1 h2).1, (h x.1 x.2.1 x.2.2 h1 h2).2.1⟩
  have hne : ∀ (k m : Nat) (x y : Nat × TypeId × Array Value), is[k]? = some x → is[m]? = some y → k ≠ m → G x.1 ≠ G y.1 := fun k m x y hx hy hkm => by
    obtain ⟨h1, h2⟩ := hs x (List.mem_of_getElem? hx)
    obtain ⟨h3, h4⟩ := hs y (List.mem_of_getElem? hy)
    have hxy : x.1 ≠ y.1 := fun e => by
      have hk := (List.getElem?_eq_some_iff.1 hx)
      have hm := (List.getElem?_eq_some_iff.1 hy)
      have hk' : k < (is.map (·.1)).length := by rw [List.length_map]; exact hk.1
      have hm' : m < (is.map (·.1)).length := by rw [List.length_map]; exact hm.1
      have hp := List.pairwise_iff_getElem.1 hd
      rcases Nat.lt_or_ge k m with hlt | hge
      · exact hp k m hk' hm' hlt (by simp only [List.getElem_map]; rw [hk.2, hm.2]; exact e)
      · exact hp m k hm' hk' (by omega) (by simp only [List.getElem_map]; rw [hk.2, hm.2]; exact e.symm)
    exact fun e => (h x.1 x.2.1 x.2.2 h1 h2).2.2 y.1 y.2.1 y.2.2 h3 h4 (fun e' => hxy e'.symm) e.symm
  refine ⟨fun k r hk => ?_, fun k m r s hk hm' hkm => ?_, fun k r hk => ?_, M'.below⟩
  · rcases hn k r hk with ⟨_, hk⟩ | ⟨_, x, hx, rfl⟩
    · exact M'.rows k r hk
    · exact (hm _ x hx).2
  · rcases hn k r hk with ⟨h1, hk⟩ | ⟨h1, x, hx, rfl⟩ <;> rcases hn m s hm' with ⟨h2, hm'⟩ | ⟨h2, y, hy, rfl⟩
    · exact M.apart k m r s hk hm' hkm
    · have := (M.rows k r hk).lt
      have := (hm _ y hy).1
      show r.1 ≠ G y.1
      omega
    · have := (M.rows m s hm').lt
      have := (hm _ x hx).1
      show G x.1 ≠ s.1
      omega
    · exact hne _ _ x y hx hy (by omega)
  · rcases hn k r hk with ⟨_, hk⟩ | ⟨_, x, hx, rfl⟩
    · exact M.own k r hk
    · have := M.below.size
      have := (hm _ x hx).1
      show _ ≤ G x.1
      omega
end
end Go.Proofs.Ytdikkdediofieaa
