/- Regions that draw their order, by an invariant: what holds whichever operations have come up. No program is run here. -/
import Derived.Test.YthpbhimmfmablaaHR
namespace Go.Proofs.Ythpbhimmfmablaa
open Go.RowKit
section
variable {P : Program} {ops : Array Oper} {Q : Exit → Act → World → Prop} {md : Region.Mode} {S : World → Prop}
theorem count_set : ∀ (l : List Bool) (i : Nat), l[i]? = some false → (l.set i true).count false < l.count false
  | [], i, h => by simp at h
  | b :: l, 0, h => by
    simp only [List.getElem?_cons_zero, Option.some.injEq] at h
    subst h
    simp
  | b :: l, i + 1, h => by
    have := count_set l i (by simpa using h)
    simp only [List.set_cons_succ, List.count_cons]
    omega
theorem ready_not {l : Array Bool} {i : Nat} (h : i ∈ Region.ready md ops l) : l.getD i true = false := (mem_ready.1 h).1
theorem ready_lt {l : Array Bool} {i : Nat} (h : i ∈ Region.ready md ops l) : i < ops.size := by
  obtain ⟨_, o, ho, _⟩ := mem_ready.1 h
  exact (Array.getElem?_eq_some_iff.1 ho).1
theorem ready_of {l : Array Bool} {i : Nat} (h0 : l.getD i true = false) (h1 : i < ops.size) (h : ((ops[i]?).map (·.after.all fun e => !Region.binds md e || l.getD e.on false)).getD false = true) : i ∈ Region.ready md ops l := by
  unfold Region.ready
  rw [List.mem_filter, List.mem_range]
  exact ⟨h1, by rw [h0, h]; rfl⟩
/-- does operation i wait for operation j? -/
def waits (md : Region.Mode) (ops : Array Oper) (i j : Nat) : Bool := ((ops[i]?).map fun o => o.after.any fun e => Region.binds md e && e.on == j).getD false
theorem ready_dep {l : Array Bool} {i j : Nat} (h : i ∈ Region.ready md ops l) (hd : waits md ops i j = true) : l.getD j false = true := by
  obtain ⟨_, o, ho, hall⟩ := mem_ready.1 h
  unfold waits at hd
  rw [ho] at hd
  simp only [Option.map_some, Option.getD_some, Array.any_eq_true, Bool.and_eq_true, beq_iff_eq] at hd
  obtain ⟨k, hk, hb, hj⟩ := hd
  have := hall _ (Array.getElem_mem hk) hb
  rw [hj] at this
  exact this
/-- an invariant that each operation keeps, whichever have come up -/
theorem wpAnyH_inv (Inv : Array Bool → Act → World → Prop) (hS : ∀ l a w, Inv l a w → S w)
    (hstep : ∀ l a w i, i ∈ Region.ready md ops l → Inv l a w → wpOp P ops Q i (fun a' w' => Inv (l.setIfInBounds i true) a' w') a w)
    (hend : ∀ l a w, Region.ready md ops l = [] → Inv l a w → Q .normal a w) :
    ∀ (fuel : Nat) (l : Array Bool) (a : Act) (w : World), l.toList.count false ≤ fuel → Inv l a w → wpAnyH P md ops Q S fuel l a w
  | 0, l, a, w, hc, hi => by
    have hr : Region.ready md ops l = [] := by
      rw [List.eq_nil_iff_forall_not_mem]
      intro i hm
      have h1 := ready_not hm
      have h2 : l.toList.count false = 0 := by omega
      rw [List.count_eq_zero] at h2
      rcases Nat.lt_or_ge i l.size with h' | h'
      · have : l[i] = false := by simpa [Array.getD, h'] using h1
        exact h2 (by rw [← this]; exact Array.getElem_mem_toList h')
      · simp [Array.getD, Nat.not_lt.2 h'] at h1
    exact ⟨hr, hend l a w hr hi⟩
  | fuel + 1, l, a, w, hc, hi => by
    refine ⟨fun h => hend l a w h hi, fun i hm => ?_⟩
    have h1 := ready_not hm
    have hlt : i < l.size := by
      rcases Nat.lt_or_ge i l.size with h' | h'
      · exact h'
      · simp [Array.getD, Nat.not_lt.2 h'] at h1
    have hf : l.toList[i]? = some false := by
      have : l[i] = false := by simpa [Array.getD, hlt] using h1
      simp [hlt, this]
    have hcs := count_set l.toList i hf
    refine wpOp_mono (fun a' w' h => ⟨hS _ _ _ h, wpAnyH_inv Inv hS hstep hend fuel _ a' w' ?_ h⟩) (hstep l a w i hm hi)
    rw [Array.toList_setIfInBounds]
    omega
theorem wpOp_val {i d : Nat} {o : Oper} {v : Value} {a : Act} {w w' : World} {K : Act → World → Prop} (hi : ops[i]? = some o) (hw : Region.wanted o (yielded ops a.tmps) = true) (hd : o.dst = some d)
    (hex : (execOp a.eval o).run P w = .ok (.value v) w') (h : K (a.put (some d) v) w') : wpOp P ops Q i K a w := by
  unfold wpOp
  simp only [hi, hw, if_true]
  left
  unfold Oper.wp
  rw [hex]
  show K (a.put o.dst v) w'
  rw [hd]; exact h
theorem wpOp_call {i d f : Nat} {args : Array Value} {o : Oper} {a : Act} {w : World} {K : Act → World → Prop} {R : Ending → World → Prop} (hc : Calls P f args w R) (hi : ops[i]? = some o) (hw : Region.wanted o (yielded ops a.tmps) = true) (hd : o.dst = some d)
    (hex : (execOp a.eval o).run P w = .ok (.enter f args) w) (h : ∀ e w', R e w' → ∃ v, e = .returned v ∧ K (a.put (some d) v) w') : wpOp P ops Q i K a w := by
  unfold wpOp
  simp only [hi, hw, if_true]
  left
  unfold Oper.wp
  rw [hex]
  refine Calls.mono hc (fun e w' hR => ?_)
  obtain ⟨v, rfl, h1⟩ := h e w' hR
  rw [hd]; exact h1
theorem wpOp_skip {i : Nat} {o : Oper} {a : Act} {w w' : World} {K : Act → World → Prop} (hi : ops[i]? = some o) (hw : Region.wanted o (yielded ops a.tmps) = true) (hd : o.dst = none)
    (hex : (execOp a.eval o).run P w = .ok .skip w') (h : K (a.put none undef) w') : wpOp P ops Q i K a w := by
  unfold wpOp
  simp only [hi, hw, if_true]
  left
  unfold Oper.wp
  rw [hex]
  show K (a.put o.dst undef) w'
  rw [hd]; exact h
end
end Go.Proofs.Ythpbhimmfmablaa
