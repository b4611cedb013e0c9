/- Maps whose keys are integers, as functions; worlds that are kept but for some blocks. No program is run here. -/
import Derived.Test.YthpbhimmfmablaaTUJ
import Derived.Maps.OwnSet
namespace Go.Proofs.Ythpbhimmfmablaa
open Go.RowKit
/-- an element reads as itself -/
def hv (v : Value) : Option (DataW Value × List MemPlace) := some (.held v, [])
/-- block b is a map: at each key (an integer of the kind) the value that f tells, n in all -/
def MapH (q : IntKind) (k : TypeId) (W : World) (b : Nat) (f : Nat → Option Value) (n : Nat) : Prop :=
  ∃ D : DataW Value, W.ownsMap Try.prog k hv b n D ∧ Maps.size D = n ∧
    ∀ a : Nat, (Lit.int q (a : Int)).wf = true → Maps.has D (.int q (a : Int)) = (f a).isSome ∧ D.atKey (.int q (a : Int)) .nil = (match f a with | some v => .held v | none => .nil)
theorem ownsMap_tight {P : Program} {k : TypeId} {R : Value → Option (DataW Value × List MemPlace)} {w : World} {b n : Nat} {D : DataW Value} (h : w.ownsMap P k R b n D) : w.ownsMap P k R b (Maps.size D) D := by
  obtain ⟨es, clock, hb, F, _, rfl⟩ := h
  exact ⟨es, clock, hb, F, by simp [Maps.size, length_sorted], rfl⟩
section
variable {q : IntKind} {k : TypeId} {W : World} {b n : Nat} {f : Nat → Option Value}
theorem MapH.empty (q : IntKind) (k : TypeId) (W : World) : MapH q k (W.alloc (.map #[] 0)) W.heap.size (fun _ => none) 0 :=
  ⟨.map [], World.ownsMap_made W Try.prog k hv, rfl, fun _ _ => ⟨rfl, rfl⟩⟩
theorem MapH.lt (h : MapH q k W b f n) : b < W.heap.size := by
  obtain ⟨D, h, _⟩ := h
  exact h.lt
theorem MapH.kept {W' : World} (h : MapH q k W b f n) (hb : W'.heap[b]? = W.heap[b]?) : MapH q k W' b f n := by
  obtain ⟨D, ⟨es, clock, h1, h2⟩, h3⟩ := h
  exact ⟨D, ⟨es, clock, hb.trans h1, h2⟩, h3⟩
theorem MapH.congr {f' : Nat → Option Value} {n' : Nat} (h : MapH q k W b f n) (hf : ∀ a : Nat, (Lit.int q (a : Int)).wf = true → f a = f' a) (hn : n = n') : MapH q k W b f' n' := by
  subst hn
  obtain ⟨D, h1, h2, h3⟩ := h
  exact ⟨D, h1, h2, fun a ha => by rw [← hf a ha]; exact h3 a ha⟩
variable (hk : Try.prog.underlying k = some (.int q))
include hk
theorem MapH.look {t e : TypeId} (h : MapH q k W b f n) (ht : Try.prog.underlying t = some (.map k e)) {z : Value} (hz : (zeroValue e).run Try.prog W = .ok z W) (a : Nat) (ha : (Lit.int q (a : Int)).wf = true) (c : Bool) :
    (Instr.lookup t (.map (some b)) (.int q (a : Int)) c).run Try.prog W = .ok (if c = true then .tuple #[(f a).getD z, .bool (f a).isSome] else (f a).getD z) W := by
  obtain ⟨D, ⟨es, clock, hb, F, hn, rfl⟩, _, hf⟩ := h
  have hfa := (hf a ha).2
  rcases Maps.fit_look c (Maps.int_keyed hk) ht hz hb F (Maps.keyOf_int_mk hk ha) with ⟨hrun, _, hat⟩ | ⟨e0, y, _, _, hrun, hR, hat, _⟩
  · rw [hat .nil] at hfa
    cases hq : f a with
    | none => rw [hrun]; rfl
    | some v => rw [hq] at hfa; cases hfa
  · obtain rfl : (DataW.held e0.val, []) = y := by
      have : hv e0.val = some y := hR
      unfold hv at this
      exact Option.some.inj this
    rw [hat .nil] at hfa
    cases hq : f a with
    | none => rw [hq] at hfa; cases hfa
    | some v =>
      rw [hq] at hfa
      simp only [DataW.held.injEq] at hfa
      rw [hrun, hfa]
      rfl
theorem MapH.put {t e : TypeId} (h : MapH q k W b f n) (ht : Try.prog.underlying t = some (.map k e)) (hn : n ≤ 1000) (a : Nat) (ha : (Lit.int q (a : Int)).wf = true) (v : Value) :
    ∃ W', (Instr.mapUpdate t (.map (some b)) (.int q (a : Int)) v).run Try.prog W = .ok () W' ∧ MapH q k W' b (fun x => if x = a then some v else f x) (if (f a).isSome then n else n + 1) ∧ W.grownBy W' (some b) := by
  obtain ⟨D, hown, hs, hf⟩ := h
  have hkey := Maps.keyOf_int_mk hk ha
  have K := Maps.int_keyed hk
  obtain ⟨W', hrun, h1, h2⟩ := hown.store K ht (by unfold maxLen; omega) hkey (show hv v = some (.held v, []) from rfl)
  refine ⟨W', hrun, ⟨D.put (.int q (a : Int)) (.held v), ?_, ?_, fun a' ha' => ?_⟩, h2.grown⟩
  · have h3 := ownsMap_tight h1
    rw [Maps.size_put (hown.tidy K), (hf a ha).1, hs] at h3
    exact h3
  · rw [Maps.size_put (hown.tidy K), (hf a ha).1, hs]
  · by_cases hx : a' = a
    · subst hx
      simp only [if_true]
      exact ⟨Maps.has_put_same hown.isMap (K.key hkey) _, Maps.atKey_put_same hown.isMap (K.key hkey) _ _⟩
    · simp only [if_neg hx]
      have hne : (Lit.int q (a' : Int)) ≠ .int q (a : Int) := fun e => by
        injection e with _ e
        exact hx (Int.ofNat_inj.1 e)
      rw [Maps.has_put_other hne, Maps.atKey_put_other hne]
      exact hf a' ha'
theorem MapH.del {t e : TypeId} (h : MapH q k W b f n) (ht : Try.prog.underlying t = some (.map k e)) (a : Nat) (ha : (Lit.int q (a : Int)).wf = true) (ty : TypeId) :
    ∃ W', (Builtin.delete_ #[t, k] ty #[.map (some b), .int q (a : Int)]).run Try.prog W = .ok (.tuple #[]) W' ∧ MapH q k W' b (fun x => if x = a then none else f x) (if (f a).isSome then n - 1 else n) ∧ W.grownBy W' (some b) := by
  obtain ⟨D, hown, hs, hf⟩ := h
  have hkey := Maps.keyOf_int_mk hk ha
  have K := Maps.int_keyed hk
  obtain ⟨W', hrun, h1, h2⟩ := hown.drop K ht hkey ty
  have hsz : Maps.size (D.del (.int q (a : Int))) = if (f a).isSome then n - 1 else n := by
    have h3 := Maps.size_del (k := .int q (a : Int)) (hown.tidy K)
    rw [(hf a ha).1, hs] at h3
    generalize (f a).isSome = c at h3
    cases c
    · simpa using h3
    · simp only [if_true] at h3 ⊢; omega
  refine ⟨W', hrun, ⟨D.del (.int q (a : Int)), ?_, hsz, fun a' ha' => ?_⟩, h2.grown⟩
  · have h3 := ownsMap_tight h1
    rw [hsz] at h3
    exact h3
  · by_cases hx : a' = a
    · subst hx
      simp only [if_true]
      exact ⟨Maps.has_del_same, Maps.atKey_del_same _⟩
    · simp only [if_neg hx]
      have hne : (Lit.int q (a' : Int)) ≠ .int q (a : Int) := fun e => by
        injection e with _ e
        exact hx (Int.ofNat_inj.1 e)
      rw [Maps.has_del_other hne, Maps.atKey_del_other hne]
      exact hf a' ha'
/-- at the operations -/
theorem exec_lookOk {o : Oper} {ev : Operand → Value} {t e : TypeId} (h : MapH q k W b f n) (ht : Try.prog.underlying t = some (.map k e)) {z : Value} (hz : (zeroValue e).run Try.prog W = .ok z W) (a : Nat) (ha : (Lit.int q (a : Int)).wf = true)
    (m x : Operand) (ho : o.op = .lookup t m x true) (hm : ev m = .map (some b)) (hx : ev x = .int q (a : Int)) (u : Value) (p : Bool) (hu : (f a).getD z = u) (hp : (f a).isSome = p) : (execOp ev o).run Try.prog W = .ok (.value (.tuple #[u, .bool p])) W := by
  have hr := h.look hk ht hz a ha true
  rw [if_pos rfl, hu, hp] at hr
  simp [execOp, ho, hm, hx, hr, Result.andThen]
theorem exec_look {o : Oper} {ev : Operand → Value} {t e : TypeId} (h : MapH q k W b f n) (ht : Try.prog.underlying t = some (.map k e)) {z : Value} (hz : (zeroValue e).run Try.prog W = .ok z W) (a : Nat) (ha : (Lit.int q (a : Int)).wf = true)
    (m x : Operand) (ho : o.op = .lookup t m x false) (hm : ev m = .map (some b)) (hx : ev x = .int q (a : Int)) (u : Value) (hu : (f a).getD z = u) : (execOp ev o).run Try.prog W = .ok (.value u) W := by
  have hr := h.look hk ht hz a ha false
  simp only [Bool.false_eq_true, if_false] at hr
  rw [hu] at hr
  simp [execOp, ho, hm, hx, hr, Result.andThen]
theorem exec_nilOk {o : Oper} {ev : Operand → Value} {t e : TypeId} (W : World) (ht : Try.prog.underlying t = some (.map k e)) {z : Value} (hz : (zeroValue e).run Try.prog W = .ok z W) (a : Nat) (ha : (Lit.int q (a : Int)).wf = true)
    (m x : Operand) (ho : o.op = .lookup t m x true) (hm : ev m = .map none) (hx : ev x = .int q (a : Int)) : (execOp ev o).run Try.prog W = .ok (.value (.tuple #[z, .bool false])) W := by
  have hr := Maps.look_nil (w := W) true (Maps.int_keyed hk) ht hz (Maps.keyOf_int_mk hk ha)
  simp only [if_true] at hr
  simp [execOp, ho, hm, hx, hr, Result.andThen]
theorem exec_put {o : Oper} {ev : Operand → Value} {t e : TypeId} (h : MapH q k W b f n) (ht : Try.prog.underlying t = some (.map k e)) (hn : n ≤ 1000) (a : Nat) (ha : (Lit.int q (a : Int)).wf = true) (v : Value)
    (m x y : Operand) (ho : o.op = .mapUpdate t m x y) (hm : ev m = .map (some b)) (hx : ev x = .int q (a : Int)) (hy : ev y = v) :
    ∃ W', (execOp ev o).run Try.prog W = .ok .skip W' ∧ MapH q k W' b (fun x => if x = a then some v else f x) (if (f a).isSome then n else n + 1) ∧ W.grownBy W' (some b) := by
  obtain ⟨W', hrun, h1, h2⟩ := h.put hk ht hn a ha v
  refine ⟨W', ?_, h1, h2⟩
  simp [execOp, ho, hm, hx, hy, hrun, Result.andThen]
theorem exec_del {o : Oper} {ev : Operand → Value} {t e : TypeId} (h : MapH q k W b f n) (ht : Try.prog.underlying t = some (.map k e)) (a : Nat) (ha : (Lit.int q (a : Int)).wf = true)
    (m x : Operand) (ho : o.op = .call { callee := .builtin .delete, args := #[m, x], argTypes := #[t, k] }) (hm : ev m = .map (some b)) (hx : ev x = .int q (a : Int)) :
    ∃ W', (execOp ev o).run Try.prog W = .ok (.value (.tuple #[])) W' ∧ MapH q k W' b (fun x => if x = a then none else f x) (if (f a).isSome then n - 1 else n) ∧ W.grownBy W' (some b) := by
  obtain ⟨W', hrun, h1, h2⟩ := h.del hk ht a ha o.type
  refine ⟨W', ?_, h1, h2⟩
  simp [execOp, ho, resolve, invoke, builtin, hm, hx, hrun, Result.andThen]
omit hk in
theorem exec_lenM {o : Oper} {ev : Operand → Value} {t e : TypeId} (h : MapH q k W b f n) (ht : Try.prog.underlying t = some (.map k e)) (m : Operand) (ho : o.op = .call { callee := .builtin .len, args := #[m], argTypes := #[t] }) (hm : ev m = .map (some b)) :
    (execOp ev o).run Try.prog W = .ok (.value (.int .i64 (n : Int))) W := by
  obtain ⟨D, hown, hs, _⟩ := h
  have hr := hown.len ht o.type
  rw [hs] at hr
  simp [execOp, ho, resolve, invoke, builtin, hm, hr, Result.andThen]
omit hk in
theorem exec_lenN {o : Oper} {ev : Operand → Value} {t e : TypeId} (W : World) (ht : Try.prog.underlying t = some (.map k e)) (m : Operand) (ho : o.op = .call { callee := .builtin .len, args := #[m], argTypes := #[t] }) (hm : ev m = .map none) :
    (execOp ev o).run Try.prog W = .ok (.value (.int .i64 0)) W := by
  have hr := Maps.len_nil (w := W) ht o.type
  simp [execOp, ho, resolve, invoke, builtin, hm, hr, Result.andThen]
end
/-- all blocks but those of F are as they were -/
structure Kp (F : List Nat) (W W' : World) : Prop where
  os : W'.os = W.os
  tape : W'.tape = W.tape
  output : W'.output = W.output
  size : W.heap.size ≤ W'.heap.size
  block : ∀ g, g < W.heap.size → g ∉ F → W'.heap[g]? = W.heap[g]?
theorem Kp.refl (F : List Nat) (W : World) : Kp F W W := ⟨rfl, rfl, rfl, Nat.le_refl _, fun _ _ _ => rfl⟩
theorem Kp.trans {F F' : List Nat} {a b c : World} (h : Kp F a b) (k : Kp F' b c) (hs : ∀ g, g ∈ F' → g < a.heap.size → g ∈ F) : Kp F a c :=
  ⟨k.os.trans h.os, k.tape.trans h.tape, k.output.trans h.output, Nat.le_trans h.size k.size, fun g hg hF => (k.block g (Nat.lt_of_lt_of_le hg h.size) (fun h' => hF (hs g h' hg))).trans (h.block g hg hF)⟩
theorem Kp.of_below {W W' : World} (F : List Nat) (h : Below W.heap.size W W') : Kp F W W' := ⟨h.os, h.tape, h.output, h.size, fun g hg _ => h.block g hg⟩
theorem Kp.of_grown {W W' : World} {b : Nat} (h : W.grownBy W' (some b)) : Kp [b] W W' := ⟨h.os, h.tape, h.output, h.size, fun g hg hF => h.block g hg (fun e => hF (by simp at e; simp [e]))⟩
theorem Kp.of_set (W : World) (g j : Nat) (v : Value) : Kp [g] W (W.setCell ⟨g, j, none⟩ v) :=
  ⟨rfl, rfl, rfl, by simp, fun i _ hF => heap_setCell_other W ⟨g, j, none⟩ i v (fun e => hF (by simp [e]))⟩
theorem Kp.of_row (W : World) (g : Nat) (cs : Array Value) : Kp [g] W (W.setRow g cs) :=
  ⟨rfl, rfl, rfl, by simp [World.setRow], fun i _ hF => setRow_other W g i cs (fun e => hF (by simp [e]))⟩
theorem Kp.mono {F F' : List Nat} {W W' : World} (h : Kp F W W') (hs : ∀ g, g ∈ F → g ∈ F') : Kp F' W W' := ⟨h.os, h.tape, h.output, h.size, fun g hg hF => h.block g hg (fun h' => hF (hs g h'))⟩
theorem Kp.below {F : List Nat} {W W' : World} (h : Kp F W W') (B : Nat) (hB : B ≤ W.heap.size) (hF : ∀ g, g ∈ F → B ≤ g) : Below B W W' :=
  ⟨h.os, h.tape, h.output, h.size, fun g hg => h.block g (by omega) (fun h' => by have := hF g h'; omega)⟩
theorem Has.kp {F : List Nat} {W W' : World} {g : Nat} {t : TypeId} {cs : Array Value} (h : Has W g t cs) (k : Kp F W W') (hF : g ∉ F) : Has W' g t cs := (k.block g h.lt hF).trans h
theorem MapH.kp {F : List Nat} {W W' : World} {q : IntKind} {k : TypeId} {b n : Nat} {f : Nat → Option Value} (h : MapH q k W b f n) (kp : Kp F W W') (hF : b ∉ F) : MapH q k W' b f n := h.kept (kp.block b h.lt hF)
theorem OwR.kp {F : List Nat} {W W' : World} {e : TypeId} {base : Nat} {v : Value} {l : List Value} (h : OwR e base W v l) (k : Kp F W W') (hF : ∀ g, v.ownBlock = some g → g ∉ F) : OwR e base W' v l := by
  have hlt := h.lt
  obtain ⟨h1, h2⟩ := h
  refine ⟨h1, ?_⟩
  rcases h2 with h2 | ⟨g, cap, cur, rfl, hg2, h4, h5⟩
  · exact Or.inl h2
  · exact Or.inr ⟨g, cap, cur, rfl, hg2, (k.block g (hlt g rfl).2 (hF g rfl)).trans h4, h5⟩
end Go.Proofs.Ythpbhimmfmablaa
