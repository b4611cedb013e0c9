/- Regions with a gate that is no call; calls and values behind a gate. No program is run here. -/
import Derived.Test.YthpbhimmfmablaaHG
namespace Go.Proofs.Ythpbhimmfmablaa
open Go.RowKit
section
variable {P : Program} {md : Region.Mode} {ops : Array Oper} {Q : Exit → Act → World → Prop} {S : World → Prop} {c : Nat}
/-- the gate alone may come up: it yields -/
theorem gateVal {fuel : Nat} {listed : Array Bool} {a : Act} {w : World} (d : Nat) (v : Value) (w' : World) (o : Oper) (hr : Region.ready md ops listed = [c]) (hi : ops[c]? = some o)
    (hw : Region.wanted o (yielded ops a.tmps) = true) (hd : o.dst = some d) (hex : (execOp a.eval o).run P w = .ok (.value v) w')
    (h : wpAny P md ops Q fuel (listed.setIfInBounds c true) (a.put (some d) v) w') : wpAnyG P md ops Q S c (fuel + 1) listed a w := by
  refine ⟨fun h => (by rw [hr] at h; cases h), fun i hm => ?_⟩
  rw [hr] at hm
  simp only [List.mem_singleton] at hm
  subst hm
  unfold wpOp
  simp only [hi, hw, if_true]
  left
  unfold Oper.wp
  rw [hex]
  show _ ∧ _
  rw [hd]
  exact ⟨fun h0 => (by rw [getD_set_same] at h0; cases h0), wpAnyG_of_any _ _ _ _ (getD_set_same _ _) h⟩
/-- behind the gate: a call alone may come up -/
theorem call0 {fuel : Nat} {listed : Array Bool} {a : Act} {w : World} (i d f : Nat) (args : Array Value) (o : Oper) (hr : Region.ready md ops listed = [i]) (hi : ops[i]? = some o)
    (hw : Region.wanted o (yielded ops a.tmps) = true) (hd : o.dst = some d) (hex : (execOp a.eval o).run P w = .ok (.enter f args) w) {R : Ending → World → Prop} (hc : Calls P f args w R)
    (hR : ∀ e w', R e w' → ∃ v, e = .returned v ∧ wpAny P md ops Q fuel (listed.setIfInBounds i true) (a.put (some d) v) w') : wpAny P md ops Q (fuel + 1) listed a w := by
  refine ⟨fun h => (by rw [hr] at h; cases h), fun j hm => ?_⟩
  rw [hr] at hm
  simp only [List.mem_singleton] at hm
  subst hm
  unfold wpOp
  simp only [hi, hw, if_true]
  left
  unfold Oper.wp
  rw [hex]
  refine Calls.mono hc (fun e w' hRe => ?_)
  obtain ⟨v, rfl, h1⟩ := hR e w' hRe
  rw [hd]
  exact h1
/-- behind the gate: one operation alone may come up, and yields -/
theorem val0 {fuel : Nat} {listed : Array Bool} {a : Act} {w : World} (i d : Nat) (v : Value) (w' : World) (o : Oper) (hr : Region.ready md ops listed = [i]) (hi : ops[i]? = some o)
    (hw : Region.wanted o (yielded ops a.tmps) = true) (hd : o.dst = some d) (hex : (execOp a.eval o).run P w = .ok (.value v) w')
    (h : wpAny P md ops Q fuel (listed.setIfInBounds i true) (a.put (some d) v) w') : wpAny P md ops Q (fuel + 1) listed a w := by
  refine ⟨fun h => (by rw [hr] at h; cases h), fun j hm => ?_⟩
  rw [hr] at hm
  simp only [List.mem_singleton] at hm
  subst hm
  unfold wpOp
  simp only [hi, hw, if_true]
  left
  unfold Oper.wp
  rw [hex]
  show wpAny P md ops Q fuel _ (a.put o.dst v) w'
  rw [hd]; exact h
/-- a whole row is loaded, under a guard that is met -/
theorem wpList_load_rowG {rest : List Oper} {o : Oper} {a : Act} {w : World} (hw : Region.wanted o (yielded ops a.tmps) = true) (ty : TypeId) (x : Operand) (ho : o.op = .load ty x)
    (g : Nat) (hx : a.eval x = .pointer (some ⟨g, 0, none⟩)) (t : TypeId) (cs : Array Value) (fr : Nat × Nat) (d : TypeDesc) (hg : w.heap[g]? = some (.cells cs t fr))
    (hu : P.underlying ty = some d) (hd : (match d with | .struct _ | .array _ _ => true | _ => false) = true) (hi : (P.info? ty).map (·.size) = some cs.size)
    (h : wpList P ops Q rest (a.put o.dst (.agg cs)) w) : wpList P ops Q (o :: rest) a w := by
  simp only [wpList, hw, if_true]
  exact Or.inl (wp_load_row ty x ho g hx t cs fr d hg hu hd hi h)
end
end Go.Proofs.Ythpbhimmfmablaa
