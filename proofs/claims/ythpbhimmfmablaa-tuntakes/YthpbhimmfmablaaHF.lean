/- Regions that draw their order, as a flow: each operation of the first n waits for what it looks at, yields a value that is known ahead (whatever the order), or makes a block; what is behind them (stores) waits for all of them. No program is run here. -/
import Derived.Test.YthpbhimmfmablaaHI
namespace Go.Proofs.Ythpbhimmfmablaa
open Go.RowKit
/-- what an operation of the flow leaves: a value that is known, or the address of a block that it makes, or a slice of so many of its elements -/
abbrev FlowV := Value ⊕ (TypeId × Array Value × Option Nat)
def flowVal (G : Nat → Nat) (i : Nat) : FlowV → Value
  | .inl v => v
  | .inr (_, _, none) => .pointer (some ⟨G i, 0, none⟩)
  | .inr (_, _, some n) => .slice (some ⟨G i, 0, none⟩) n n
theorem flowVal_congr {G G' : Nat → Nat} {i j : Nat} (h : G i = G' j) (s : FlowV) : flowVal G i s = flowVal G' j s := by
  rcases s with v | ⟨t, z, _ | n⟩
  · rfl
  · simp [flowVal, h]
  · simp [flowVal, h]
/-- the frame behind those operations that are marked -/
def flowPut (G : Nat → Nat) : Nat → List Oper → List FlowV → List Bool → Act → Act
  | i, o :: os, s :: ss, b :: bs, a => flowPut G (i + 1) os ss bs (if b then a.put o.dst (flowVal G i s) else a)
  | _, _, _, _, a => a
/-- the frame behind all of them -/
def flowAll (G : Nat → Nat) : Nat → List Oper → List FlowV → Act → Act
  | i, o :: os, s :: ss, a => flowAll G (i + 1) os ss (a.put o.dst (flowVal G i s))
  | _, _, _, a => a
section
variable {G : Nat → Nat}
theorem flowPut_push {d : Option Tmp} {v : Value} : ∀ (i : Nat) (os : List Oper) (ss : List FlowV) (bs : List Bool) (a : Act), (∀ o ∈ os, ∀ t, d = some t → o.dst ≠ some t) →
    flowPut G i os ss bs (a.put d v) = (flowPut G i os ss bs a).put d v
  | i, [], ss, bs, a, _ => by simp [flowPut]
  | i, o :: os, [], bs, a, _ => by simp [flowPut]
  | i, o :: os, s :: ss, [], a, _ => by simp [flowPut]
  | i, o :: os, s :: ss, b :: bs, a, h => by
    have ih := fun a => flowPut_push (d := d) (v := v) (i + 1) os ss bs a (fun o ho => h o (List.mem_cons_of_mem _ ho))
    cases b with
    | false => simp only [flowPut, Bool.false_eq_true, if_false]; exact ih a
    | true =>
      simp only [flowPut, if_true]
      rw [Act.put_comm a v (flowVal G i s) (fun t ht => h o List.mem_cons_self t ht), ih]
theorem flowAll_push {d : Option Tmp} {v : Value} : ∀ (i : Nat) (os : List Oper) (ss : List FlowV) (a : Act), (∀ o ∈ os, ∀ t, d = some t → o.dst ≠ some t) →
    flowAll G i os ss (a.put d v) = (flowAll G i os ss a).put d v
  | i, [], ss, a, _ => by simp [flowAll]
  | i, o :: os, [], a, _ => by simp [flowAll]
  | i, o :: os, s :: ss, a, h => by
    simp only [flowAll]
    rw [Act.put_comm a v (flowVal G i s) (fun t ht => h o List.mem_cons_self t ht), flowAll_push (i + 1) os ss _ (fun o ho => h o (List.mem_cons_of_mem _ ho))]
/-- no two of these write the same slot -/
def apartL : List Oper → Bool
  | [] => true
  | o :: os => os.all (fun x => o.dst.isNone || x.dst != o.dst) && apartL os
theorem apartL_cons {o : Oper} {os : List Oper} (h : apartL (o :: os) = true) : (∀ x ∈ os, ∀ t, o.dst = some t → x.dst ≠ some t) ∧ apartL os = true := by
  simp only [apartL, Bool.and_eq_true, List.all_eq_true] at h
  refine ⟨fun x hx t ht he => ?_, h.2⟩
  have := h.1 x hx
  rw [ht, he] at this
  simp at this
theorem flowPut_set : ∀ (i : Nat) (os : List Oper) (ss : List FlowV) (bs : List Bool) (a : Act) (j : Nat) (o : Oper) (s : FlowV), apartL os = true → os[j]? = some o → ss[j]? = some s → bs[j]? = some false →
    flowPut G i os ss (bs.set j true) a = (flowPut G i os ss bs a).put o.dst (flowVal G (i + j) s)
  | i, [], ss, bs, a, j, o, s, _, ho, _, _ => by simp at ho
  | i, o' :: os, [], bs, a, j, o, s, _, _, hs, _ => by simp at hs
  | i, o' :: os, s' :: ss, [], a, j, o, s, _, _, _, hb => by simp at hb
  | i, o' :: os, s' :: ss, b :: bs, a, 0, o, s, hp, ho, hs, hb => by
    simp only [List.getElem?_cons_zero, Option.some.injEq] at ho hs hb
    subst ho hs hb
    simp only [List.set_cons_zero, flowPut, if_true, Nat.add_zero, Bool.false_eq_true, if_false]
    exact flowPut_push _ _ _ _ _ (apartL_cons hp).1
  | i, o' :: os, s' :: ss, b :: bs, a, j + 1, o, s, hp, ho, hs, hb => by
    simp only [List.set_cons_succ, flowPut]
    rw [flowPut_set (i + 1) os ss bs _ j o s (apartL_cons hp).2 (by simpa using ho) (by simpa using hs) (by simpa using hb)]
    congr 2
    omega
theorem flowPut_congr {G' : Nat → Nat} : ∀ (i : Nat) (os : List Oper) (ss : List FlowV) (bs : List Bool) (a : Act), (∀ j, bs[j]? = some true → G (i + j) = G' (i + j)) → flowPut G i os ss bs a = flowPut G' i os ss bs a
  | i, [], ss, bs, a, _ => by simp [flowPut]
  | i, o :: os, [], bs, a, _ => by simp [flowPut]
  | i, o :: os, s :: ss, [], a, _ => by simp [flowPut]
  | i, o :: os, s :: ss, b :: bs, a, h => by
    have e : (if b then a.put o.dst (flowVal G i s) else a) = if b then a.put o.dst (flowVal G' i s) else a := by
      cases b with
      | false => rfl
      | true =>
        have h0 := h 0 rfl
        rw [Nat.add_zero] at h0
        rw [flowVal_congr h0 s]
    simp only [flowPut]
    rw [e]
    exact flowPut_congr (i + 1) os ss bs _ (fun j hj => by have := h (j + 1) (by simpa using hj); rw [show i + 1 + j = i + (j + 1) from by omega]; exact this)
theorem flowPut_none : ∀ (i : Nat) (os : List Oper) (ss : List FlowV) (bs : List Bool) (a : Act), (∀ j : Nat, bs[j]? ≠ some true) → flowPut G i os ss bs a = a
  | i, [], ss, bs, a, _ => by simp [flowPut]
  | i, o :: os, [], bs, a, _ => by simp [flowPut]
  | i, o :: os, s :: ss, [], a, _ => by simp [flowPut]
  | i, o :: os, s :: ss, b :: bs, a, h => by
    have hb : b = false := by
      cases b with
      | false => rfl
      | true => exact absurd rfl (h 0)
    subst hb
    simp only [flowPut, Bool.false_eq_true, if_false]
    exact flowPut_none (i + 1) os ss bs a (fun j hj => h (j + 1) (by simpa using hj))
theorem flowPut_all : ∀ (i : Nat) (os : List Oper) (ss : List FlowV) (bs : List Bool) (a : Act), (∀ j, j < ss.length → bs[j]? = some true) → flowPut G i os ss bs a = flowAll G i os ss a
  | i, [], ss, bs, a, _ => by simp [flowPut, flowAll]
  | i, o :: os, [], bs, a, _ => by simp [flowPut, flowAll]
  | i, o :: os, s :: ss, [], a, h => by have := h 0 (by simp); simp at this
  | i, o :: os, s :: ss, b :: bs, a, h => by
    have hb : b = true := by have := h 0 (by simp); simpa using this
    subst hb
    simp only [flowPut, flowAll, if_true]
    exact flowPut_all (i + 1) os ss bs _ (fun j hj => by have := h (j + 1) (by simpa using hj); simpa using this)
/-- what looks at nothing that is still to come looks at the same in both frames -/
theorem flow_eval {G : Nat → Nat} {ops : Array Oper} (o : Oper) (hsel : ∀ cs b, o.op ≠ .select cs b) : ∀ (i : Nat) (os : List Oper) (ss : List FlowV) (bs : List Bool) (a : Act), apartL os = true →
    (∀ j x, os[j]? = some x → j < ss.length → bs[j]? ≠ some true → ∀ d, x.dst = some d → d ∉ o.looksAt ops) →
    execOp (flowPut G i os ss bs a).eval o = execOp (flowAll G i os ss a).eval o ∧ Region.wanted o (yielded ops (flowPut G i os ss bs a).tmps) = Region.wanted o (yielded ops (flowAll G i os ss a).tmps)
  | i, [], ss, bs, a, _, _ => by simp [flowPut, flowAll]
  | i, x :: os, [], bs, a, _, _ => by simp [flowPut, flowAll]
  | i, x :: os, s :: ss, [], a, hp, h => by
    have e := flow_eval (G := G) o hsel (i + 1) os ss [] a (apartL_cons hp).2 (fun j y hy hj hb d hd => h (j + 1) y (by simpa using hy) (by simpa using hj) (by simp) d hd)
    simp only [flowAll]
    rw [flowAll_push _ _ _ _ (apartL_cons hp).1]
    have hn := h 0 x rfl (by simp) (by simp)
    rw [execOp_put o hsel _ _ _ hn, wanted_put o _ _ _ hn]
    have e0 : ∀ i, flowPut G i os ss [] a = a := fun i => by cases os <;> cases ss <;> simp [flowPut]
    rw [e0] at e
    simp only [flowPut]
    exact e
  | i, x :: os, s :: ss, b :: bs, a, hp, h => by
    have ih := fun a => flow_eval (G := G) o hsel (i + 1) os ss bs a (apartL_cons hp).2 (fun j y hy hj hb d hd => h (j + 1) y (by simpa using hy) (by simpa using hj) (by simpa using hb) d hd)
    cases b with
    | true => simp only [flowPut, flowAll, if_true]; exact ih _
    | false =>
      simp only [flowPut, flowAll, Bool.false_eq_true, if_false]
      rw [flowAll_push _ _ _ _ (apartL_cons hp).1]
      have hn := h 0 x rfl (by simp) (by simp)
      rw [execOp_put o hsel _ _ _ hn, wanted_put o _ _ _ hn]
      exact ih a
end
section
variable {P : Program} {ops : Array Oper} {Q : Exit → Act → World → Prop} {md : Region.Mode}
/-- does operation i wait for operation j, straight or through others? -/
def waitsFar (md : Region.Mode) (ops : Array Oper) : Nat → Nat → Nat → Bool
  | 0, _, _ => false
  | f + 1, i, j => waits md ops i j || (List.range i).any fun k => waits md ops i k && waitsFar md ops f k j
/-- the marks are closed under what is waited for -/
def Shut (md : Region.Mode) (ops : Array Oper) (l : Array Bool) : Prop := ∀ i j, l.getD i false = true → waits md ops i j = true → l.getD j false = true
theorem Shut.far {l : Array Bool} (h : Shut md ops l) : ∀ (f i j : Nat), (∀ k, waits md ops i k = true → l.getD k false = true) → waitsFar md ops f i j = true → l.getD j false = true
  | 0, _, _, _, hw => by simp [waitsFar] at hw
  | f + 1, i, j, hi, hw => by
    simp only [waitsFar, Bool.or_eq_true, List.any_eq_true, Bool.and_eq_true] at hw
    rcases hw with hw | ⟨k, _, hk, hw⟩
    · exact hi j hw
    · exact h.far f k j (fun k' hk' => h k k' (hi k hk) hk') hw
/-- what a flow asks of its operations; n: how many they are; pre: which have come up ahead of it -/
def flowOk (md : Region.Mode) (ops : Array Oper) (n : Nat) (pre : List Nat) : Bool :=
  decide (n ≤ ops.size) && Region.noSelect ops && apartL ops.toList &&
  (List.range n).all (fun i => match ops[i]? with
    | none => false
    | some o => o.dst.isSome && o.after.all (fun e => !Region.binds md e || decide (e.on < i)) &&
      (List.range n).all fun j => match (ops[j]?).bind (·.dst) with
        | none => false
        | some d => pre.contains i || !(o.looksAt ops).contains d || waits md ops i j) &&
  (List.range ops.size).all (fun i => decide (i < n) || (List.range n).all fun j => pre.contains j || waitsFar md ops ops.size i j)
/-- an operation's value, known ahead -/
def Known (P : Program) (ops : Array Oper) (o : Oper) (v : Value) (a : Act) (W : World) : Prop :=
  (Region.wanted o (yielded ops a.tmps) = true ∧ ((∃ W', (execOp a.eval o).run P W = .ok (.value v) W' ∧ Below W.heap.size W W') ∨
    ∃ f args, (execOp a.eval o).run P W = .ok (.enter f args) W ∧ Calls P f args W fun e W' => e = .returned v ∧ Below W.heap.size W W')) ∨
  (Region.wanted o (yielded ops a.tmps) = false ∧ v = undef)
theorem known_val {P : Program} {ops : Array Oper} {o : Oper} {v : Value} {a : Act} {W : World} (hw : Region.wanted o (yielded ops a.tmps) = true) (hr : (execOp a.eval o).run P W = .ok (.value v) W) : Known P ops o v a W :=
  Or.inl ⟨hw, Or.inl ⟨W, hr, Below.refl _ _⟩⟩
theorem known_call {P : Program} {ops : Array Oper} {o : Oper} {v : Value} {a : Act} {W : World} (f : FuncId) (args : Array Value) (hc : Calls P f args W fun e W' => e = .returned v ∧ Below W.heap.size W W') (hw : Region.wanted o (yielded ops a.tmps) = true) (hr : (execOp a.eval o).run P W = .ok (.enter f args) W) : Known P ops o v a W :=
  Or.inl ⟨hw, Or.inr ⟨f, args, hr, hc⟩⟩
/-- an operation that makes a block -/
def Makes (P : Program) (ops : Array Oper) (o : Oper) (t : TypeId) (z : Array Value) (n : Option Nat) (a : Act) : Prop :=
  Region.wanted o (yielded ops a.tmps) = true ∧ ∀ W, (execOp a.eval o).run P W = .ok (.value (flowVal (fun _ => W.heap.size) 0 (.inr (t, z, n)))) (W.alloc (.cells z t))
theorem made_ptr {R : Result Next} {W W' : World} {t : TypeId} {z : Array Value} (h : R = .ok (.value (.pointer (some ⟨W.heap.size, 0, none⟩))) W') : R = .ok (.value (flowVal (fun _ => W.heap.size) 0 (.inr (t, z, none)))) W' := h
theorem made_slice {R : Result Next} {W W' : World} {t : TypeId} {z : Array Value} {n : Nat} (h : R = .ok (.value (.slice (some ⟨W.heap.size, 0, none⟩) n n)) W') : R = .ok (.value (flowVal (fun _ => W.heap.size) 0 (.inr (t, z, some n)))) W' := h
/-- the blocks that operation i waits for are there -/
def flowRows (md : Region.Mode) (ops : Array Oper) (ss : List FlowV) (G : Nat → Nat) (i : Nat) (W : World) : Prop := ∀ j t z n, ss[j]? = some (.inr (t, z, n)) → waits md ops i j = true → Has W (G j) t z
def FlowEach (P : Program) (ops : Array Oper) (R : Nat → World → Prop) (a : Act) (w : World) (pre : List Nat) : Nat → List Oper → List FlowV → Prop
  | i, o :: os, .inl v :: ss => (pre.contains i = true ∨ ∀ W, Below w.heap.size w W → R i W → Known P ops o v a W) ∧ FlowEach P ops R a w pre (i + 1) os ss
  | i, o :: os, .inr (t, z, n) :: ss => Makes P ops o t z n a ∧ FlowEach P ops R a w pre (i + 1) os ss
  | _, _, [] => True
  | _, [], _ :: _ => False
theorem FlowEach.known {R : Nat → World → Prop} {a : Act} {w : World} {pre : List Nat} : ∀ {os : List Oper} {ss : List FlowV} {k i : Nat} {o : Oper} {v : Value}, FlowEach P ops R a w pre k os ss → os[i]? = some o → ss[i]? = some (.inl v) → pre.contains (k + i) = false → ∀ W, Below w.heap.size w W → R (k + i) W → Known P ops o v a W
  | os, [], k, i, o, v, _, _, hs, _ => by simp at hs
  | [], s :: ss, k, i, o, v, _, ho, _, _ => by simp at ho
  | x :: os, .inl u :: ss, k, 0, o, v, h, ho, hs, hp => by
    simp only [List.getElem?_cons_zero, Option.some.injEq, Sum.inl.injEq] at ho hs
    subst ho hs
    rcases h.1 with h1 | h1
    · rw [Nat.add_zero] at hp; rw [hp] at h1; cases h1
    · rw [Nat.add_zero]; exact h1
  | x :: os, .inr u :: ss, k, 0, o, v, h, ho, hs, _ => by simp at hs
  | x :: os, .inl u :: ss, k, i + 1, o, v, h, ho, hs, hp => by
    have := FlowEach.known (i := i) h.2 (by simpa using ho) (by simpa using hs) (by rw [Nat.add_assoc, Nat.add_comm 1]; exact hp)
    rw [Nat.add_assoc, Nat.add_comm 1] at this
    exact this
  | x :: os, .inr (t, z, n) :: ss, k, i + 1, o, v, h, ho, hs, hp => by
    have := FlowEach.known (i := i) h.2 (by simpa using ho) (by simpa using hs) (by rw [Nat.add_assoc, Nat.add_comm 1]; exact hp)
    rw [Nat.add_assoc, Nat.add_comm 1] at this
    exact this
theorem FlowEach.makes {R : Nat → World → Prop} {a : Act} {w : World} {pre : List Nat} : ∀ {os : List Oper} {ss : List FlowV} {k i : Nat} {o : Oper} {t : TypeId} {z : Array Value} {n : Option Nat}, FlowEach P ops R a w pre k os ss → os[i]? = some o → ss[i]? = some (.inr (t, z, n)) → Makes P ops o t z n a
  | os, [], k, i, o, t, z, n, _, _, hs => by simp at hs
  | [], s :: ss, k, i, o, t, z, n, _, ho, _ => by simp at ho
  | x :: os, .inr u :: ss, k, 0, o, t, z, n, h, ho, hs => by
    simp only [List.getElem?_cons_zero, Option.some.injEq, Sum.inr.injEq] at ho hs
    subst ho hs
    exact h.1
  | x :: os, .inl u :: ss, k, 0, o, t, z, n, h, ho, hs => by simp at hs
  | x :: os, .inl u :: ss, k, i + 1, o, t, z, n, h, ho, hs => FlowEach.makes (i := i) h.2 (by simpa using ho) (by simpa using hs)
  | x :: os, .inr (t', z', n') :: ss, k, i + 1, o, t, z, n, h, ho, hs => FlowEach.makes (i := i) h.2 (by simpa using ho) (by simpa using hs)
/-- the blocks that have been made -/
def Made (G : Nat → Nat) (b : Nat) (ss : List FlowV) (l : Array Bool) (W : World) : Prop :=
  ∀ i t z n, ss[i]? = some (.inr (t, z, n)) → l.getD i false = true → b ≤ G i ∧ Has W (G i) t z ∧ ∀ j t' z' n', ss[j]? = some (.inr (t', z', n')) → l.getD j false = true → j ≠ i → G j ≠ G i
theorem Made.below {G : Nat → Nat} {b : Nat} {ss : List FlowV} {l : Array Bool} {W W' : World} (h : Made G b ss l W) (hb : Below W.heap.size W W') : Made G b ss l W' := fun i t z n hs hl =>
  ⟨(h i t z n hs hl).1, (h i t z n hs hl).2.1.below hb (h i t z n hs hl).2.1.lt, (h i t z n hs hl).2.2⟩
/-- what holds in the midst of a flow -/
def FlowInv (md : Region.Mode) (ops : Array Oper) (ss : List FlowV) (a0 : Act) (w : World) (l : Array Bool) (a : Act) (W : World) (pre : List Nat) : Prop :=
  (∀ i ∈ pre, l.getD i false = true) ∧ ∃ G : Nat → Nat, a = flowPut G 0 ops.toList ss l.toList a0 ∧ Below w.heap.size w W ∧ Made G w.heap.size ss l W ∧ l.size = ops.size ∧ (∀ i, ss.length ≤ i → l.getD i false = false) ∧ Shut md ops l
theorem getD_true {l : Array Bool} {i : Nat} : l.getD i false = true ↔ l.toList[i]? = some true := by
  simp only [Array.getD, Array.getElem?_toList]
  by_cases h : i < l.size
  · simp [h]
  · simp [h]
theorem getD_set_true (l : Array Bool) (i j : Nat) : (l.setIfInBounds i true).getD j false = true ↔ (j = i ∧ i < l.size) ∨ l.getD j false = true := by
  by_cases h : i = j
  · subst h
    by_cases h' : i < l.size
    · simp [Array.getD, h']
    · simp [Array.getD, h']
  · rw [getD_set_ne false h]
    constructor
    · exact Or.inr
    · rintro (⟨rfl, _⟩ | h')
      · exact absurd rfl h
      · exact h'
theorem waits_of {i j : Nat} {o : Oper} (ho : ops[i]? = some o) {e : Edge} (he : e ∈ o.after) (hb : Region.binds md e = true) (hj : e.on = j) : waits md ops i j = true := by
  unfold waits
  rw [ho]
  simp only [Option.map_some, Option.getD_some, Array.any_eq_true, Bool.and_eq_true, beq_iff_eq]
  obtain ⟨k, hk, hke⟩ := Array.mem_iff_getElem.1 he
  exact ⟨k, hk, by rw [hke]; exact hb, by rw [hke]; exact hj⟩
theorem waits_edge {i j : Nat} {o : Oper} (ho : ops[i]? = some o) (h : waits md ops i j = true) : ∃ e ∈ o.after, Region.binds md e = true ∧ e.on = j := by
  unfold waits at h
  rw [ho] at h
  simp only [Option.map_some, Option.getD_some, Array.any_eq_true, Bool.and_eq_true, beq_iff_eq] at h
  obtain ⟨k, hk, hb, hj⟩ := h
  exact ⟨_, Array.getElem_mem hk, hb, hj⟩
theorem ready_true {l : Array Bool} {i : Nat} (h : i ∈ Region.ready md ops l) (hs : l.size = ops.size) : l.getD i false = false ∧ i < l.size ∧ l.toList[i]? = some false := by
  have h1 := ready_not h
  have hlt := ready_lt h
  rw [← hs] at hlt
  have h2 : l[i] = false := by simpa [Array.getD, hlt] using h1
  exact ⟨by simp [Array.getD, hlt, h2], hlt, by simp [hlt, h2]⟩
structure FlowSpec (md : Region.Mode) (ops : Array Oper) (n : Nat) (pre : List Nat) : Prop where
  le : n ≤ ops.size
  sel : Region.noSelect ops = true
  apart : apartL ops.toList = true
  flow : ∀ i, i < n → ∃ o, ops[i]? = some o ∧ o.dst.isSome = true ∧ (∀ e ∈ o.after, Region.binds md e = true → e.on < i) ∧ ∀ j, j < n → i ∉ pre → ∀ d, (ops[j]?).bind (·.dst) = some d → d ∈ o.looksAt ops → waits md ops i j = true
  tail : ∀ i, n ≤ i → i < ops.size → ∀ j, j < n → j ∉ pre → waitsFar md ops ops.size i j = true
theorem flowOk_spec {n : Nat} {pre : List Nat} (h : flowOk md ops n pre = true) : FlowSpec md ops n pre := by
  simp only [flowOk, Bool.and_eq_true, decide_eq_true_eq, List.all_eq_true, List.mem_range] at h
  obtain ⟨⟨⟨⟨h1, h2⟩, h3⟩, h4⟩, h5⟩ := h
  refine ⟨h1, h2, h3, fun i hi => ?_, fun i hn hi j hj hp => ?_⟩
  · have h := h4 i hi
    cases ho : ops[i]? with
    | none => rw [ho] at h; simp at h
    | some o =>
      rw [ho] at h
      simp only [Bool.and_eq_true, Array.all_eq_true_iff_forall_mem, Bool.or_eq_true, Bool.not_eq_true', decide_eq_true_eq, List.all_eq_true, List.mem_range] at h
      refine ⟨o, rfl, h.1.1, fun e he hb => ?_, fun j hj hp d hd hm => ?_⟩
      · rcases h.1.2 e he with h | h
        · rw [hb] at h; cases h
        · exact h
      · have h' := h.2 j hj
        rw [hd] at h'
        simp only [Bool.or_eq_true, Bool.not_eq_true', List.contains_eq_mem, decide_eq_false_iff_not] at h'
        rcases h' with (h' | h') | h'
        · exact absurd (by simpa using h') hp
        · exact absurd hm h'
        · exact h'
  · have h := h5 i hi
    simp only [Bool.or_eq_true, decide_eq_true_eq, List.all_eq_true, List.mem_range] at h
    rcases h with h | h
    · omega
    · rcases h j hj with h | h
      · exact absurd (by simpa using h) hp
      · exact h
theorem count_set_eq : ∀ (l : List Bool) (i : Nat), l[i]? = some false → (l.set i true).count false + 1 = l.count false
  | [], i, h => by simp at h
  | b :: l, 0, h => by
    simp only [List.getElem?_cons_zero, Option.some.injEq] at h
    subst h
    simp
  | b :: l, i + 1, h => by
    have := count_set_eq l i (by simpa using h)
    simp only [List.set_cons_succ, List.count_cons]
    omega
theorem count_zero {l : List Bool} {n : Nat} (h : ∀ i, i < n → l[i]? ≠ some false) : (l.take n).count false = 0 := by
  rw [List.count_eq_zero]
  intro hm
  obtain ⟨i, hi, he⟩ := List.mem_iff_getElem.1 hm
  rw [List.length_take] at hi
  refine h i (by omega) ?_
  rw [List.getElem_take] at he
  rw [List.getElem?_eq_getElem (by omega), he]
/-- the marks behind the flow -/
def flowMarks (n m : Nat) : Array Bool := (List.replicate n true ++ List.replicate m false).toArray
theorem marks_done {l : Array Bool} {n N : Nat} (hs : l.size = N) (hn : n ≤ N) (h0 : ∀ i, n ≤ i → l.getD i false = false) (h1 : (l.toList.take n).count false = 0) : l = flowMarks n (N - n) := by
  unfold flowMarks
  refine Array.ext (by simp; omega) (fun i hi hi' => ?_)
  have e : (List.replicate n true ++ List.replicate (N - n) false).toArray[i] = decide (i < n) := by
    simp only [List.getElem_toArray, List.getElem_append, List.getElem_replicate, List.length_replicate]
    split <;> simp [*]
  rw [e]
  by_cases hc : i < n
  · rw [decide_eq_true hc]
    rw [List.count_eq_zero] at h1
    cases hb : l[i] with
    | true => rfl
    | false =>
      refine absurd (List.mem_iff_getElem.2 ⟨i, ?_, ?_⟩) h1
      · rw [List.length_take, Array.length_toList]; omega
      · rw [List.getElem_take, Array.getElem_toList]; exact hb
  · rw [decide_eq_false hc]
    have h := h0 i (by omega)
    simpa [Array.getD, hi] using h
theorem flow_step {ss : List FlowV} {a0 : Act} {w : World} {pre : List Nat} (hok : FlowSpec md ops ss.length pre) (hE : ∀ G, FlowEach P ops (flowRows md ops ss G) (flowAll G 0 ops.toList ss a0) w pre 0 ops.toList ss) {l : Array Bool} {a : Act} {W : World} {i : Nat} (hi : i ∈ Region.ready md ops l) (hn : i < ss.length)
    (hI : FlowInv md ops ss a0 w l a W pre) : wpOp P ops Q i (fun a' W' => FlowInv md ops ss a0 w (l.setIfInBounds i true) a' W' pre) a W := by
  obtain ⟨hpre, G, rfl, hB, hM, hs, hz, hS⟩ := hI
  obtain ⟨o, ho, _, _, hlook⟩ := hok.flow i hn
  obtain ⟨hf, hlt, hf'⟩ := ready_true hi hs
  have hoL : ops.toList[i]? = some o := by rw [Array.getElem?_toList]; exact ho
  have hsi : ss[i]? = some ss[i] := List.getElem?_eq_getElem hn
  have hev := flow_eval (G := G) (ops := ops) o (fun cs b => Region.noSelect_spec hok.sel i o cs b ho) 0 ops.toList ss l.toList a0 hok.apart (fun j x hx hj hb d hd hm => by
    have hx' : ops[j]? = some x := by rw [← Array.getElem?_toList]; exact hx
    have hw := hlook j hj (fun hp => by rw [hpre i hp] at hf; cases hf) d (by rw [hx']; exact hd) hm
    exact hb (getD_true.1 (ready_dep hi hw)))
  obtain ⟨hev1, hev2⟩ := hev
  have hz' : ∀ j, ss.length ≤ j → (l.setIfInBounds i true).getD j false = false := fun j hj => by rw [getD_set_ne false (by omega)]; exact hz j hj
  have hS' : Shut md ops (l.setIfInBounds i true) := fun j k hj hw => by
    rcases (getD_set_true l i j).1 hj with ⟨rfl, _⟩ | hj
    · exact (getD_set_true l j k).2 (Or.inr (ready_dep hi hw))
    · exact (getD_set_true l i k).2 (Or.inr (hS j k hj hw))
  have hpre' : ∀ j ∈ pre, (l.setIfInBounds i true).getD j false = true := fun j hj => (getD_set_true l i j).2 (Or.inr (hpre j hj))
  have hs' : (l.setIfInBounds i true).size = ops.size := by rw [Array.size_setIfInBounds, hs]
  have hput : ∀ G' s, ss[i]? = some s → flowPut G' 0 ops.toList ss (l.setIfInBounds i true).toList a0 = (flowPut G' 0 ops.toList ss l.toList a0).put o.dst (flowVal G' i s) := fun G' s h => by
    have := flowPut_set (G := G') 0 ops.toList ss l.toList a0 i o s hok.apart hoL h hf'
    rw [Nat.zero_add] at this
    rw [Array.toList_setIfInBounds]; exact this
  have hmark : ∀ j u z n, ss[j]? = some (Sum.inr (u, z, n)) → (l.setIfInBounds i true).getD j false = true → j ≠ i → l.getD j false = true := fun j u z n _ h hne => by
    rcases (getD_set_true l i j).1 h with ⟨h', _⟩ | h'
    · exact absurd h' hne
    · exact h'
  cases hsv : ss[i] with
  | inl v =>
    rw [hsv] at hsi
    have hk := (hE G).known hoL hsi (by rw [Nat.zero_add]; simpa using fun hp => by rw [hpre i hp] at hf; cases hf) W hB (by
      rw [Nat.zero_add]
      exact fun j t z n hj hw => (hM j t z n hj (ready_dep hi hw)).2.1)
    have hp := hput G _ hsi
    have hend : ∀ W', Below W.heap.size W W' → FlowInv md ops ss a0 w (l.setIfInBounds i true) ((flowPut G 0 ops.toList ss l.toList a0).put o.dst v) W' pre := fun W' hb =>
      ⟨hpre', G, by rw [hp]; rfl, hB.trans (hb.mono hB.size), fun j u z n hj hl => by
        have hne : j ≠ i := by rintro rfl; rw [hsi] at hj; cases hj
        have h := (hM.below hb) j u z n hj (hmark j u z n hj hl hne)
        exact ⟨h.1, h.2.1, fun k u' z' n' hk hlk hkj => by
          have hne' : k ≠ i := by rintro rfl; rw [hsi] at hk; cases hk
          exact h.2.2 k u' z' n' hk (hmark k u' z' n' hk hlk hne') hkj⟩, hs', hz', hS'⟩
    unfold wpOp
    simp only [ho]
    rw [hev2]
    rcases hk with ⟨hw, hk⟩ | ⟨hw, rfl⟩
    · simp only [hw, if_true]
      left
      unfold Oper.wp
      rw [hev1]
      rcases hk with ⟨W', hr, hb⟩ | ⟨f, args, hr, hc⟩
      · rw [hr]; exact hend W' hb
      · rw [hr]
        refine Calls.mono hc (fun e W' h => ?_)
        obtain ⟨rfl, hb⟩ := h
        exact hend W' hb
    · simp only [hw, Bool.false_eq_true, if_false]
      exact hend W (Below.refl _ _)
  | inr tz =>
    obtain ⟨t, z, n⟩ := tz
    rw [hsv] at hsi
    obtain ⟨hw, hr⟩ := (hE G).makes hoL hsi
    unfold wpOp
    simp only [ho]
    rw [hev2]
    simp only [hw, if_true]
    left
    unfold Oper.wp
    rw [hev1, hr W]
    have hp := hput (fun j => if j = i then W.heap.size else G j) _ hsi
    have hc : flowPut (fun j => if j = i then W.heap.size else G j) 0 ops.toList ss l.toList a0 = flowPut G 0 ops.toList ss l.toList a0 := flowPut_congr _ _ _ _ _ (fun j hj => by
      rw [Nat.zero_add]
      have : j ≠ i := by rintro rfl; rw [hf'] at hj; cases hj
      rw [if_neg this])
    rw [hc] at hp
    have hbA : Below W.heap.size W (W.alloc (.cells z t)) := (Below.refl _ _).alloc (Nat.le_refl _) _
    refine ⟨hpre', fun j => if j = i then W.heap.size else G j, ?_, hB.trans (hbA.mono hB.size), fun j u z' n' hj hl => ?_, hs', hz', hS'⟩
    · rw [hp]
      congr 1
      exact flowVal_congr (by simp only [if_true]) _
    · by_cases hji : j = i
      · subst hji
        rw [hsi] at hj
        simp only [Option.some.injEq, Sum.inr.injEq, Prod.mk.injEq] at hj
        obtain ⟨rfl, rfl, rfl⟩ := hj
        simp only [if_true]
        refine ⟨hB.size, Has.fresh W _ _, fun k u' z'' n'' hk hlk hkj => ?_⟩
        rw [if_neg hkj]
        have := (hM k u' z'' n'' hk (hmark k u' z'' n'' hk hlk hkj)).2.1.lt
        omega
      · have h := (hM.below hbA) j u z' n' hj (hmark j u z' n' hj hl hji)
        simp only [if_neg hji]
        refine ⟨h.1, h.2.1, fun k u' z'' n'' hk hlk hkj => ?_⟩
        by_cases hki : k = i
        · have hlt := (hM j u z' n' hj (hmark j u z' n' hj hl hji)).2.1.lt
          rw [if_pos hki]; omega
        · rw [if_neg hki]; exact h.2.2 k u' z'' n'' hk (hmark k u' z'' n'' hk hlk hki) hkj
theorem wpAnyH_of_any : ∀ (fuel : Nat) (listed : Array Bool) (a : Act) (w : World), wpAny P md ops Q fuel listed a w → wpAnyH P md ops Q (fun _ => True) fuel listed a w
  | 0, _, _, _, h => h
  | fuel + 1, _, _, _, h => ⟨h.1, fun i hi => wpOp_mono (fun a' w' h' => ⟨trivial, wpAnyH_of_any fuel _ a' w' h'⟩) (h.2 i hi)⟩
theorem wpAnyH_flow {S : World → Prop} {ss : List FlowV} {a0 : Act} {w : World} {pre : List Nat} (hok : FlowSpec md ops ss.length pre) (hE : ∀ G, FlowEach P ops (flowRows md ops ss G) (flowAll G 0 ops.toList ss a0) w pre 0 ops.toList ss)
    (hS : ∀ W, Below w.heap.size w W → S W)
    (hend : ∀ G W, Below w.heap.size w W → Made G w.heap.size ss (flowMarks ss.length (ops.size - ss.length)) W → wpAnyH P md ops Q S (ops.size - ss.length) (flowMarks ss.length (ops.size - ss.length)) (flowAll G 0 ops.toList ss a0) W) :
    ∀ (k : Nat) (l : Array Bool) (a : Act) (W : World), (l.toList.take ss.length).count false = k → FlowInv md ops ss a0 w l a W pre → wpAnyH P md ops Q S (ops.size - ss.length + k) l a W
  | 0, l, a, W, hc, hI => by
    obtain ⟨_, G, rfl, hB, hM, hs, hz, _⟩ := hI
    have hl := marks_done hs hok.le hz hc
    subst hl
    rw [flowPut_all 0 ops.toList ss _ a0 (fun j hj => by
      unfold flowMarks
      rw [List.getElem?_append_left (by simpa using hj), List.getElem?_replicate, if_pos hj])]
    exact hend G W hB hM
  | k + 1, l, a, W, hc, hI => by
    have hs : l.size = ops.size := by obtain ⟨_, _, _, _, _, hs, _⟩ := hI; exact hs
    have hSh : Shut md ops l := by obtain ⟨_, _, _, _, _, _, _, hS⟩ := hI; exact hS
    have hnot : ¬ ∀ i, i < ss.length → l.getD i false = true := fun h => by
      have := count_zero (l := l.toList) (n := ss.length) (fun i hi => by rw [getD_true.1 (h i hi)]; simp)
      omega
    have hprog : Region.ready md ops l ≠ [] := by
      intro hr
      refine hnot (fun i => Nat.strongRecOn i ?_)
      intro i ih hi
      obtain ⟨o, ho, _, hle, _⟩ := hok.flow i hi
      have hlt : i < ops.size := (Array.getElem?_eq_some_iff.1 ho).1
      cases hb : l.getD i false with
      | true => rfl
      | false =>
        have hm : i ∈ Region.ready md ops l := ready_of (by simpa [Array.getD, hs, hlt] using hb) hlt (by
          rw [ho]
          simp only [Option.map_some, Option.getD_some, Array.all_eq_true_iff_forall_mem, Bool.or_eq_true, Bool.not_eq_true']
          intro e he
          cases hbi : Region.binds md e with
          | false => exact Or.inl rfl
          | true => exact Or.inr (ih e.on (hle e he hbi) (by have := hle e he hbi; omega)))
        rw [hr] at hm
        cases hm
    refine ⟨fun hr => absurd hr hprog, fun i hi => ?_⟩
    · by_cases hn : i < ss.length
      · refine wpOp_mono (fun a' W' h => ⟨hS W' (by obtain ⟨_, _, _, hB, _⟩ := h; exact hB), ?_⟩) (flow_step hok hE hi hn hI)
        refine wpAnyH_flow hok hE hS hend k _ a' W' ?_ h
        obtain ⟨_, _, hf'⟩ := ready_true hi hs
        have := count_set_eq (l.toList.take ss.length) i (by rw [List.getElem?_take_of_lt hn]; exact hf')
        rw [Array.toList_setIfInBounds, List.take_set]
        omega
      · exact absurd (fun j hj => by
          by_cases hp : j ∈ pre
          · exact hI.1 j hp
          · exact hSh.far ops.size i j (fun k hk => ready_dep hi hk) (hok.tail i (by omega) (ready_lt hi) j hj hp)) hnot
/-- a flow from here on; some of it has come up (pre, marked in l0), and all that has stands in the frame -/
theorem wpAnyH_flow_from {S : World → Prop} {a0 : Act} {w : World} (ss : List FlowV) (pre : List Nat) (l0 : Array Bool) (fin : (Nat → Nat) → Act) (fuel : Nat) (hok : flowOk md ops ss.length pre = true) (hl0 : l0 = ((List.range ops.size).map fun i => pre.contains i).toArray)
    (hpre : pre.all (fun i => decide (i < ss.length) && (List.range ss.length).all (fun j => !waits md ops i j || pre.contains j) && match ss[i]? with | some (.inl _) => true | _ => false) = true)
    (hfuel : fuel = ops.size - ss.length + (l0.toList.take ss.length).count false)
    (hstart : flowPut (fun _ => 0) 0 ops.toList ss l0.toList a0 = a0) (hfin : ∀ G, flowAll G 0 ops.toList ss a0 = fin G)
    (hE : ∀ G, FlowEach P ops (flowRows md ops ss G) (fin G) w pre 0 ops.toList ss)
    (hS : ∀ W, Below w.heap.size w W → S W)
    (hend : ∀ G W, Below w.heap.size w W → Made G w.heap.size ss (flowMarks ss.length (ops.size - ss.length)) W → wpAnyH P md ops Q S (ops.size - ss.length) (flowMarks ss.length (ops.size - ss.length)) (fin G) W) :
    wpAnyH P md ops Q S fuel l0 a0 w := by
  have hok' := flowOk_spec hok
  rw [hfuel]
  simp only [List.all_eq_true, Bool.and_eq_true, decide_eq_true_eq, Bool.or_eq_true, Bool.not_eq_true', List.mem_range] at hpre
  have hg : ∀ i, l0.getD i false = true ↔ i < ops.size ∧ i ∈ pre := fun i => by
    rw [getD_true, hl0, List.getElem?_map]
    by_cases h : i < ops.size
    · rw [List.getElem?_eq_getElem (by simpa using h)]
      simp [h]
    · rw [List.getElem?_eq_none (by simpa using h)]
      simp [h]
  refine wpAnyH_flow (P := P) (Q := Q) hok' (fun G => by rw [hfin G]; exact hE G) hS (fun G W hB hM => by rw [hfin G]; exact hend G W hB hM) _ l0 a0 w rfl
    ⟨fun i hi => (hg i).2 ⟨Nat.lt_of_lt_of_le (hpre i hi).1.1 hok'.le, hi⟩, fun _ => 0, hstart.symm, Below.refl _ _, fun i t z n hs h => ?_, by rw [hl0]; simp, fun i hi => ?_, fun i j h hw => ?_⟩
  · have h := (hpre i ((hg i).1 h).2).2
    rw [hs] at h
    simp at h
  · cases hb : l0.getD i false with
    | false => rfl
    | true =>
      have := (hpre i ((hg i).1 hb).2).1.1
      omega
  · have hi := (hg i).1 h
    obtain ⟨o, ho, _, hle, _⟩ := hok'.flow i (hpre i hi.2).1.1
    obtain ⟨e, he, hb, rfl⟩ := waits_edge ho hw
    have hlt := hle e he hb
    have hn := (hpre i hi.2).1.1
    rcases (hpre i hi.2).1.2 e.on (by omega) with h' | h'
    · rw [h'] at hw; cases hw
    · exact (hg e.on).2 ⟨by omega, by simpa using h'⟩
theorem wpAny_flow_from {a0 : Act} {w : World} (ss : List FlowV) (pre : List Nat) (l0 : Array Bool) (fin : (Nat → Nat) → Act) (fuel : Nat) (hok : flowOk md ops ss.length pre = true) (hl0 : l0 = ((List.range ops.size).map fun i => pre.contains i).toArray)
    (hpre : pre.all (fun i => decide (i < ss.length) && (List.range ss.length).all (fun j => !waits md ops i j || pre.contains j) && match ss[i]? with | some (.inl _) => true | _ => false) = true)
    (hfuel : fuel = ops.size - ss.length + (l0.toList.take ss.length).count false)
    (hstart : flowPut (fun _ => 0) 0 ops.toList ss l0.toList a0 = a0) (hfin : ∀ G, flowAll G 0 ops.toList ss a0 = fin G)
    (hE : ∀ G, FlowEach P ops (flowRows md ops ss G) (fin G) w pre 0 ops.toList ss)
    (hend : ∀ G W, Below w.heap.size w W → Made G w.heap.size ss (flowMarks ss.length (ops.size - ss.length)) W → wpAny P md ops Q (ops.size - ss.length) (flowMarks ss.length (ops.size - ss.length)) (fin G) W) :
    wpAny P md ops Q fuel l0 a0 w :=
  wpAny_of_held _ _ _ _ (wpAnyH_flow_from (S := fun _ => True) ss pre l0 fin fuel hok hl0 hpre hfuel hstart hfin hE (fun _ _ => trivial) (fun G W hB hM => wpAnyH_of_any _ _ _ _ (hend G W hB hM)))
/-- a region that draws its order, as a flow: fin is the frame behind it -/
theorem wp_region_flow {id : Nat} {a0 : Act} {w : World} (n m : Nat) (hm : P.follows .mixedOrders = true) (ss : List FlowV) (fin : (Nat → Nat) → Act) (hn : ss.length = n) (hnm : ops.size = n + m) (hok : flowOk .any ops n [] = true) (hfin : ∀ G, flowAll G 0 ops.toList ss a0 = fin G)
    (hE : ∀ G, FlowEach P ops (flowRows .any ops ss G) (fin G) w.drew [] 0 ops.toList ss)
    (hend : ∀ G W, Below w.drew.heap.size w.drew W → Made G w.drew.heap.size ss (flowMarks n m) W → wpAny P .any ops Q m (flowMarks n m) (fin G) W) :
    (Code.region id ops true).wp P Q a0 w := by
  subst hn
  obtain rfl : m = ops.size - ss.length := by omega
  have hok' := flowOk_spec hok
  have hl0 : Array.replicate ops.size false = ((List.range ops.size).map fun i => ([] : List Nat).contains i).toArray := by
    refine Array.ext (by simp) (fun i hi hi' => by simp)
  refine wp_region_any hm (wpAny_flow_from (w := w.drew) ss [] _ fin _ hok hl0 rfl ?_ (flowPut_none _ _ _ _ _ (fun j => by rw [Array.toList_replicate, List.getElem?_replicate]; split <;> simp)) hfin hE hend)
  rw [Array.toList_replicate, List.take_replicate, List.count_replicate]
  have := hok'.le
  simp
  omega
/-- a region in the text's order, as a flow -/
theorem wp_region_flow_text {id : Nat} {a0 : Act} {w : World} (n m : Nat) (hlin : Region.linearise .any ops 0 = List.range ops.size) (ss : List FlowV) (fin : (Nat → Nat) → Act) (hn : ss.length = n) (hnm : ops.size = n + m) (hok : flowOk .any ops n [] = true) (hfin : ∀ G, flowAll G 0 ops.toList ss a0 = fin G)
    (hE : ∀ G, FlowEach P ops (flowRows .any ops ss G) (fin G) w [] 0 ops.toList ss)
    (hend : ∀ G W, Below w.heap.size w W → Made G w.heap.size ss (flowMarks n m) W → wpAny P .any ops Q m (flowMarks n m) (fin G) W) :
    (Code.region id ops false).wp P Q a0 w := by
  subst hn
  obtain rfl : m = ops.size - ss.length := by omega
  have hok' := flowOk_spec hok
  have hl0 : Array.replicate ops.size false = ((List.range ops.size).map fun i => ([] : List Nat).contains i).toArray := by
    refine Array.ext (by simp) (fun i hi hi' => by simp)
  have h := wpAny_flow_from (Q := Q) (w := w) ss [] _ fin ops.size hok hl0 rfl (by
    rw [Array.toList_replicate, List.take_replicate, List.count_replicate]
    have := hok'.le
    simp
    omega) (flowPut_none _ _ _ _ _ (fun j => by rw [Array.toList_replicate, List.getElem?_replicate]; split <;> simp)) hfin hE hend
  have h2 := wpAny_sound ops.size 0 _ a0 w h
  change wpOps P ops Q (Region.linearise .any ops 0) a0 w at h2
  rw [hlin] at h2
  exact wp_region h2
theorem wp_region_drew {id : Nat} {a0 : Act} {w : World} (hm : P.follows .mixedOrders = true) (h : wpAny P .any ops Q ops.size (Array.replicate ops.size false) a0 w.drew) : (Code.region id ops true).wp P Q a0 w := wp_region_any hm h
/-- the same where S is asked behind each operation -/
theorem wpAnyH_flow_pre {S : World → Prop} {a0 : Act} {w : World} {l0 : Array Bool} {fuel : Nat} (n m : Nat) (pre : List Nat) (ss : List FlowV) (fin : (Nat → Nat) → Act) (hn : ss.length = n) (hnm : ops.size = n + m) (hok : flowOk .any ops n pre = true) (hl0 : l0 = ((List.range ops.size).map fun i => pre.contains i).toArray)
    (hpre : pre.all (fun i => decide (i < n) && (List.range n).all (fun j => !waits .any ops i j || pre.contains j) && match ss[i]? with | some (.inl _) => true | _ => false) = true)
    (hfuel : fuel = m + (l0.toList.take n).count false) (hstart : flowPut (fun _ => 0) 0 ops.toList ss l0.toList a0 = a0) (hS : ∀ W, Below w.heap.size w W → S W) (hfin : ∀ G, flowAll G 0 ops.toList ss a0 = fin G)
    (hE : ∀ G, FlowEach P ops (flowRows .any ops ss G) (fin G) w pre 0 ops.toList ss)
    (hend : ∀ G W, Below w.heap.size w W → Made G w.heap.size ss (flowMarks n m) W → wpAnyH P .any ops Q S m (flowMarks n m) (fin G) W) : wpAnyH P .any ops Q S fuel l0 a0 w := by
  subst hn
  obtain rfl : m = ops.size - ss.length := by omega
  exact wpAnyH_flow_from ss pre l0 fin fuel hok hl0 hpre hfuel hstart hfin hE hS hend
/-- the same behind operations that were taken first -/
theorem wpAny_flow_pre {a0 : Act} {w : World} {l0 : Array Bool} {fuel : Nat} (n m : Nat) (pre : List Nat) (ss : List FlowV) (fin : (Nat → Nat) → Act) (hn : ss.length = n) (hnm : ops.size = n + m) (hok : flowOk .any ops n pre = true) (hl0 : l0 = ((List.range ops.size).map fun i => pre.contains i).toArray)
    (hpre : pre.all (fun i => decide (i < n) && (List.range n).all (fun j => !waits .any ops i j || pre.contains j) && match ss[i]? with | some (.inl _) => true | _ => false) = true)
    (hfuel : fuel = m + (l0.toList.take n).count false) (hstart : flowPut (fun _ => 0) 0 ops.toList ss l0.toList a0 = a0) (hfin : ∀ G, flowAll G 0 ops.toList ss a0 = fin G)
    (hE : ∀ G, FlowEach P ops (flowRows .any ops ss G) (fin G) w pre 0 ops.toList ss)
    (hend : ∀ G W, Below w.heap.size w W → Made G w.heap.size ss (flowMarks n m) W → wpAny P .any ops Q m (flowMarks n m) (fin G) W) : wpAny P .any ops Q fuel l0 a0 w := by
  subst hn
  obtain rfl : m = ops.size - ss.length := by omega
  exact wpAny_flow_from ss pre l0 fin fuel hok hl0 hpre hfuel hstart hfin hE hend
end
end Go.Proofs.Ythpbhimmfmablaa
