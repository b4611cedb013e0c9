/- Whole rows in regions that draw their order: what a walk needs to know of them. No program is run here. -/
import Derived.Test.YthpbhimmfmablaaF
import Derived.Laws.CopyRow
import Derived.Deep.RegionHeld3
namespace Go.Proofs.Ythpbhimmfmablaa
open Go.RowKit
/-- a row stored cell by cell is a row stored -/
theorem setCells_row {w : World} {g : Nat} {t : TypeId} {cs : Array Value} (P : Program) (h : Has w g t cs) (vs : List Value) (hl : vs.length = cs.size) (h1 : ∀ v ∈ vs, v.oneCell' = true) :
    w.setCells g 0 vs = w.setRow g vs.toArray := by
  have a := run_storeCells_at P g 0 t vs 0 cs w h (by omega) h1
  have b := run_storeCells_cells (P := P) g 0 vs 0 w (fun j hj => by rw [Nat.add_zero, Nat.zero_add, h.cell, Array.getElem?_eq_getElem (by omega)]; rfl) (fun j _ => h.frozen _) h1
  rw [a] at b
  have e : w.setRow g (cs.toList.take (0 + 0) ++ vs ++ cs.toList.drop (0 + 0 + vs.length)).toArray = w.setCells g (0 + 0) vs := by injection b
  rw [← Nat.add_zero 0, ← e]
  congr 2
  rw [List.drop_of_length_le (by simp; omega)]
  simp
theorem bl_one (l : List UInt8) : ∀ v ∈ l.map B8, v.oneCell' = true := by
  intro v hv
  simp only [List.mem_map] at hv
  obtain ⟨b, _, rfl⟩ := hv
  rfl
theorem setCells_bytes {w : World} {g : Nat} {t : TypeId} {cs : Array Value} (P : Program) (h : Has w g t cs) (l : List UInt8) (hl : l.length = cs.size) :
    w.setCells g 0 (l.map B8) = w.setRow g (bs l) := setCells_row P h _ (by rw [List.length_map]; exact hl) (bl_one l)
theorem Has.range {w : World} {g : Nat} {t : TypeId} {l : List UInt8} (h : Has w g t (bs l)) : w.rangeAt g 0 (l.map B8) := by
  intro j v hv
  rw [h.cell, Nat.zero_add]
  simpa [bs] using hv
theorem Has.there {w : World} {g : Nat} {t : TypeId} {cs : Array Value} (h : Has w g t cs) (n : Nat) (hn : n ≤ cs.size) : w.there g 0 n := by
  intro j hj
  rw [h.cell, h.frozen, Nat.zero_add, Array.getElem?_eq_getElem (by omega)]
  exact ⟨rfl, rfl⟩
/-- cells stored into the midst of a row -/
theorem setCells_mid {w : World} {g : Nat} {t : TypeId} {cs : Array Value} (P : Program) (h : Has w g t cs) (o : Nat) (vs : List Value) (hl : o + vs.length ≤ cs.size) (h1 : ∀ v ∈ vs, v.oneCell' = true) :
    w.setCells g o vs = w.setRow g (cs.toList.take o ++ vs ++ cs.toList.drop (o + vs.length)).toArray := by
  have a := run_storeCells_at P g o t vs 0 cs w h (by omega) h1
  have b := run_storeCells_cells (P := P) g o vs 0 w (fun j hj => by rw [Nat.add_zero, h.cell, Array.getElem?_eq_getElem (by omega)]; rfl) (fun j _ => h.frozen _) h1
  rw [a] at b
  have e : w.setRow g (cs.toList.take (o + 0) ++ vs ++ cs.toList.drop (o + 0 + vs.length)).toArray = w.setCells g (o + 0) vs := by injection b
  exact e.symm
theorem setCells_midB {w : World} {g : Nat} {t : TypeId} {l : List UInt8} (P : Program) (h : Has w g t (bs l)) (o : Nat) (x : List UInt8) (hl : o + x.length ≤ l.length) :
    w.setCells g o (x.map B8) = w.setRow g (bs (l.take o ++ x ++ l.drop (o + x.length))) := by
  rw [setCells_mid P h o (x.map B8) (by rw [List.length_map, bs_size]; exact hl) (bl_one x)]
  congr 1
  unfold bs
  simp [List.map_append, List.map_take, List.map_drop]
theorem Has.rangeMid {w : World} {g : Nat} {t : TypeId} {l : List UInt8} (h : Has w g t (bs l)) (o : Nat) (x : List UInt8) (hx : (l.drop o).take x.length = x) : w.rangeAt g o (x.map B8) := by
  intro j v hv
  have hj : j < x.length := by
    have := (List.getElem?_eq_some_iff.1 hv).1
    simpa using this
  have e : x[j]? = l[o + j]? := by
    have h2 : ((l.drop o).take x.length)[j]? = l[o + j]? := by rw [List.getElem?_take_of_lt hj, List.getElem?_drop]
    rw [hx] at h2; exact h2
  rw [List.getElem?_map, e] at hv
  rw [h.cell]
  unfold bs
  rw [List.getElem?_toArray, List.getElem?_map]
  exact hv
theorem Has.thereMid {w : World} {g : Nat} {t : TypeId} {cs : Array Value} (h : Has w g t cs) (o n : Nat) (hn : o + n ≤ cs.size) : w.there g o n := by
  intro j hj
  rw [h.cell, h.frozen, Array.getElem?_eq_getElem (by omega)]
  exact ⟨rfl, rfl⟩
/-- an operation that yields in every world that meets S is taken first -/
theorem take1 {P : Program} {ops : Array Oper} {Q : Exit → Act → World → Prop} {md : Region.Mode} {S : World → Prop} {fuel : Nat} {listed : Array Bool} {a : Act} {w : World} (hS : S w) (i d : Nat) (v : Value) (oi : Oper) (hi : ops[i]? = some oi)
    (hs : Region.noSelect ops = true) (hf : Region.free md ops listed i = true) (hr : (Region.ready md ops listed).contains i = true)
    (hQ : ∀ c a w, Q (.panic c) (a.put oi.dst v) w → Q (.panic c) a w) (hw : Region.wanted oi (yielded ops a.tmps) = true) (hd : oi.dst = some d) (hy : ∀ w, S w → (execOp a.eval oi).run P w = .ok (.value v) w)
    (h : wpAnyH P md ops Q S fuel (listed.setIfInBounds i true) (a.put (some d) v) w) : wpAnyH P md ops Q S (fuel + 1) listed a w :=
  wpAnyH_take hi hs hf hr hQ (Or.inl ⟨hw, hy⟩) hS (by rw [hd]; exact h)
/-- one operation alone may come up -/
theorem only1 {P : Program} {ops : Array Oper} {Q : Exit → Act → World → Prop} {md : Region.Mode} {S : World → Prop} {fuel : Nat} {listed : Array Bool} {a : Act} {w : World} (i : Nat) (o : Oper) (hr : Region.ready md ops listed = [i]) (hi : ops[i]? = some o)
    (hw : Region.wanted o (yielded ops a.tmps) = true) (h : Oper.wp P o a w (fun a' w' => S w' ∧ wpAnyH P md ops Q S fuel (listed.setIfInBounds i true) a' w') Q) : wpAnyH P md ops Q S (fuel + 1) listed a w := by
  refine wpAnyH_ready hr (by simp) (AllReadyH.cons hi (fun K hK => ?_) AllReadyH.nil)
  rw [if_pos hw]
  exact Oper.wp_mono (fun a' w' h' => hK.out a' w' h'.1 (fun _ => h'.2)) h
/-- a call of a function of the program alone may come up -/
theorem onlyCall {P : Program} {ops : Array Oper} {Q : Exit → Act → World → Prop} {md : Region.Mode} {S : World → Prop} {fuel : Nat} {listed : Array Bool} {a : Act} {w : World} (i d f : Nat) (args : Array Value) (o : Oper) (hr : Region.ready md ops listed = [i]) (hi : ops[i]? = some o)
    (hw : Region.wanted o (yielded ops a.tmps) = true) (hd : o.dst = some d) (hex : (execOp a.eval o).run P w = .ok (.enter f args) w) {R : Ending → World → Prop} (hc : Calls P f args w R)
    (hR : ∀ e w', R e w' → ∃ v, e = .returned v ∧ S w' ∧ wpAnyH P md ops Q S fuel (listed.setIfInBounds i true) (a.put (some d) v) w') : wpAnyH P md ops Q S (fuel + 1) listed a w := by
  refine only1 i o hr hi hw ?_
  unfold Oper.wp
  rw [hex]
  refine Calls.mono hc (fun e w' h => ?_)
  obtain ⟨v, rfl, h1, h2⟩ := hR e w' h
  rw [hd]
  exact ⟨h1, h2⟩
/-- an operation alone may come up, and yields -/
theorem onlyVal {P : Program} {ops : Array Oper} {Q : Exit → Act → World → Prop} {md : Region.Mode} {S : World → Prop} {fuel : Nat} {listed : Array Bool} {a : Act} {w : World} (i d : Nat) (v : Value) (w' : World) (o : Oper) (hr : Region.ready md ops listed = [i]) (hi : ops[i]? = some o)
    (hw : Region.wanted o (yielded ops a.tmps) = true) (hd : o.dst = some d) (hex : (execOp a.eval o).run P w = .ok (.value v) w') (hS : S w')
    (h : wpAnyH P md ops Q S fuel (listed.setIfInBounds i true) (a.put (some d) v) w') : wpAnyH P md ops Q S (fuel + 1) listed a w := by
  refine only1 i o hr hi hw ?_
  unfold Oper.wp
  rw [hex]
  show S w' ∧ wpAnyH P md ops Q S fuel (listed.setIfInBounds i true) (a.put o.dst v) w'
  rw [hd]
  exact ⟨hS, h⟩
end Go.Proofs.Ythpbhimmfmablaa
