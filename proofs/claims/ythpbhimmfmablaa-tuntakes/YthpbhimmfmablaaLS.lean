/- Structs as rows of parts: parts that are loaded, stored, copied into, built; '==' by literals. No program is run here. -/
import Derived.Test.YthpbhimmfmablaaVD
import Derived.Test.YthpbhimmfmablaaMK
import Derived.Test.YthpbhimmfmablaaJ
import Derived.DeepKeys
namespace Go.Proofs.Ythpbhimmfmablaa
open Go.RowKit
/-- a struct's cells, part by part -/
def segC (L : List (List Value)) : Array Value := L.flatten.toArray
/-- where part i begins -/
def segAt (L : List (List Value)) (i : Nat) : Nat := ((L.take i).map List.length).sum
theorem segAt_flat (L : List (List Value)) (i : Nat) : (L.take i).flatten.length = segAt L i := by unfold segAt; rw [List.length_flatten]
theorem seg_split : ∀ (L : List (List Value)) (i : Nat) (B B' : List Value), L[i]? = some B → L.flatten = (L.take i).flatten ++ (B ++ (L.drop (i + 1)).flatten) ∧ (L.set i B').flatten = (L.take i).flatten ++ (B' ++ (L.drop (i + 1)).flatten)
  | [], i, B, B', h => by simp at h
  | A :: L, 0, B, B', h => by
    simp only [List.getElem?_cons_zero, Option.some.injEq] at h
    subst h
    exact ⟨by simp, by simp⟩
  | A :: L, i + 1, B, B', h => by
    obtain ⟨h1, h2⟩ := seg_split L i B B' (by simpa using h)
    refine ⟨?_, ?_⟩
    · rw [List.flatten_cons, h1, List.take_succ_cons, List.flatten_cons, List.drop_succ_cons, List.append_assoc]
    · rw [List.set_cons_succ, List.flatten_cons, h2, List.take_succ_cons, List.flatten_cons, List.drop_succ_cons, List.append_assoc]
theorem mid_cut (A B C : List Value) (n : Nat) (hn : A.length = n) : ((A ++ (B ++ C)).drop n).take B.length = B := by
  subst hn
  rw [List.drop_left, List.take_left]
theorem mid_set (A B C B' : List Value) (n k : Nat) (hn : A.length = n) (hk : B.length = k) : (A ++ (B ++ C)).take n ++ B' ++ (A ++ (B ++ C)).drop (n + k) = A ++ (B' ++ C) := by
  subst hn
  subst hk
  rw [List.take_left, ← List.append_assoc A B C, show A.length + B.length = (A ++ B).length from by rw [List.length_append], List.drop_left, List.append_assoc]
section
variable {L : List (List Value)} {i off : Nat} {B : List Value}
theorem seg_part (hB : L[i]? = some B) (ho : segAt L i = off) : ((segC L).toList.drop off).take B.length = B := by
  unfold segC
  rw [(seg_split L i B [] hB).1]
  exact mid_cut _ _ _ _ (by rw [segAt_flat]; exact ho)
theorem seg_copy (hB : L[i]? = some B) (ho : segAt L i = off) (B' : List Value) (n : Nat) (hn : B.length = n) : ((segC L).toList.take off ++ B' ++ (segC L).toList.drop (off + n)).toArray = segC (L.set i B') := by
  unfold segC
  rw [(seg_split L i B B' hB).1, (seg_split L i B B' hB).2]
  rw [mid_set _ _ _ _ _ _ (by rw [segAt_flat]; exact ho) hn]
theorem seg_get {v : Value} (hB : L[i]? = some [v]) (ho : segAt L i = off) : (segC L)[off]? = some v := by
  unfold segC
  rw [(seg_split L i [v] [] hB).1, List.getElem?_toArray, List.getElem?_append_right (by rw [segAt_flat]; omega), segAt_flat, ho, Nat.sub_self]
  rfl
theorem seg_put {u v : Value} (hB : L[i]? = some [u]) (ho : segAt L i = off) : (segC L).setIfInBounds off v = segC (L.set i [v]) := by
  unfold segC
  rw [(seg_split L i [u] [v] hB).1, (seg_split L i [u] [v] hB).2, List.setIfInBounds_toArray, List.set_append_right _ _ (by rw [segAt_flat]; omega), segAt_flat, ho, Nat.sub_self]
  rfl
variable {w : World} {g : Nat} {t : TypeId}
theorem Has.seg (h : Has w g t (segC L)) {v : Value} (i : Nat) (hB : L[i]? = some [v]) (ho : segAt L i = off) : w.cell? ⟨g, off, none⟩ = some v := by rw [h.cell, seg_get hB ho]
theorem Has.segs (h : Has w g t (segC L)) (i : Nat) (hB : L[i]? = some B) (ho : segAt L i = off) : w.rangeAt g off B := rangeU h off _ (seg_part hB ho)
/-- a part is loaded -/
theorem exec_seg {o : Oper} {ev : Operand → Value} {d : TypeDesc} (ty : TypeId) (x : Operand) (h : Has w g t (segC L)) (i : Nat) (hB : L[i]? = some B) (ho : segAt L i = off) (hu : Try.prog.underlying ty = some d) (hd : d.isRow = true) (hi : (Try.prog.info? ty).map (·.size) = some B.length)
    (hop : o.op = .load ty x) (he : ev x = .pointer (some ⟨g, off, none⟩)) : (execOp ev o).run Try.prog w = .ok (.value (.agg B.toArray)) w :=
  exec_load_part ty x g off B h (seg_part hB ho) hu hd hi hop he
/-- bytes of a text are copied over a part -/
theorem copy_seg (h : Has w g t (segC L)) (i n : Nat) (hB : L[i]? = some B) (ho : segAt L i = off) (hn : B.length = n) (hf : off + n ≤ (segC L).size) (s : ByteArray) (hs : n ≤ s.size) (l : List UInt8) (hl : s.data.toList.take n = l) :
    (Builtin.copy_ #[60, 9] 3 #[.slice (some ⟨g, off, none⟩) n n, .string s]).run Try.prog w = .ok (.int .i64 (n : Int)) (w.setRow g (segC (L.set i (l.map B8)))) := by
  rw [copy_in h off n hf s hs, hl]
  show _ = Result.ok _ (w.setRow g (segC (L.set i (Lib.byteCells l))))
  rw [← seg_copy hB ho (Lib.byteCells l) n hn]
end
theorem fold_put : ∀ (B' : List Value) (A B C : List Value) (k n : Nat), B.length = B'.length → A.length = n + k →
    (B'.zipIdx k).foldl (fun (cs : Array Value) x => cs.setIfInBounds (n + x.2) x.1) (A ++ (B ++ C)).toArray = (A ++ (B' ++ C)).toArray
  | [], A, B, C, k, n, h, _ => by
    have : B = [] := List.length_eq_zero_iff.1 (by simpa using h)
    subst this
    rfl
  | v :: B', A, [], C, k, n, h, _ => by simp at h
  | v :: B', A, u :: B, C, k, n, h, hA => by
    rw [List.zipIdx_cons, List.foldl_cons]
    have e : (A ++ (u :: B ++ C)).toArray.setIfInBounds (n + k) v = ((A ++ [v]) ++ (B ++ C)).toArray := by
      rw [List.setIfInBounds_toArray, List.set_append_right _ _ (by omega), hA, Nat.sub_self]
      simp
    rw [e, fold_put B' (A ++ [v]) B C (k + 1) n (by simpa using h) (by simp; omega)]
    simp
/-- one part is built in -/
theorem fill_seg {place : Nat → Option (Nat × Nat)} {L : List (List Value)} {B : List Value} (i off n : Nat) (v : Value) (l : List Value) (rest : List (Nat × Value)) (hp : place i = some (off, n)) (hB : L[i]? = some B) (ho : segAt L i = off) (hn : B.length = n)
    (hl : l.length = n) (hv : v.cells = l.toArray) : Instr.fill place (segC L) ((i, v) :: rest) = Instr.fill place (segC (L.set i l)) rest := by
  have hs := (seg_split L i B l hB).1
  have ht := (seg_split L i B l hB).2
  have hA := segAt_flat L i
  conv => lhs; unfold Instr.fill
  rw [hp]
  have h1 : v.cells.size = n := by rw [hv]; simpa using hl
  have h2 : ¬ (v.cells.size ≠ n ∨ off + v.cells.size > (segC L).size) := by
    rw [h1]
    unfold segC
    rw [hs]
    simp only [List.size_toArray, List.length_append]
    omega
  have h3 : (v.cells.zipIdx.foldl (fun cs x => cs.setIfInBounds (off + x.2) x.1) (segC L)) = segC (L.set i l) := by
    unfold segC
    rw [hs, ht, hv, ← Array.foldl_toList, Array.toList_zipIdx]
    exact fold_put l _ _ _ 0 off (by omega) (by omega)
  simp only [Bool.or_eq_true, decide_eq_true_eq, h2, if_false]
  rw [← h3]
theorem exec_build {o : Oper} {ev : Operand → Value} {w : World} (t : TypeId) (parts : Array (Nat × Operand)) (cs : Array Value) (ho : o.op = .build t parts) (hf : Try.prog.built t (parts.map fun (i, x) => (i, ev x)).toList = some cs) :
    (execOp ev o).run Try.prog w = .ok (.value (.agg cs)) w := by
  unfold execOp
  simp only [ho, Sem.run_bind, run_build w t _ _ hf, Result.andThen_ok, Sem.run_pure]
theorem exec_eql {P : Program} {o : Oper} {ev : Operand → Value} {w : World} (t : TypeId) (p q : Operand) (xs ys : Array Value) (r : Bool) (hm : P.eqGuardType P.depth t = false) (h : (Op.equalIn 10000 t (.agg xs) (.agg ys)).run P w = .ok r w) (ho : o.op = .binOp .eql t p q t) (hp : ev p = .agg xs) (hq : ev q = .agg ys) :
    (execOp ev o).run P w = .ok (.value (.bool r)) w := by
  have hb : (binOp .eql t (.agg xs) (.agg ys)).run P w = .ok (.bool r) w := by
    show (Value.bool <$> Op.equalIn 10000 t (.agg xs) (.agg ys)).run P w = _
    simp [h]
  unfold execOp
  simp only [ho, hp, hq, Sem.run_bind, run_eqGuard_agg w .eql t p q xs ys hm, hb, Result.andThen_ok, Sem.run_pure]
theorem exec_neq {P : Program} {o : Oper} {ev : Operand → Value} {w : World} (t : TypeId) (p q : Operand) (xs ys : Array Value) (r : Bool) (hm : P.eqGuardType P.depth t = false) (h : (Op.equalIn 10000 t (.agg xs) (.agg ys)).run P w = .ok r w) (ho : o.op = .binOp .neq t p q t) (hp : ev p = .agg xs) (hq : ev q = .agg ys) :
    (execOp ev o).run P w = .ok (.value (.bool (!r))) w := by
  have hb : (binOp .neq t (.agg xs) (.agg ys)).run P w = .ok (.bool (!r)) w := by
    show ((fun r => Value.bool (!r)) <$> Op.equalIn 10000 t (.agg xs) (.agg ys)).run P w = _
    simp [h]
  unfold execOp
  simp only [ho, hp, hq, Sem.run_bind, run_eqGuard_agg w .neq t p q xs ys hm, hb, Result.andThen_ok, Sem.run_pure]
/-- arrays of bytes -/
theorem exec_eqB {o : Oper} {ev : Operand → Value} {w : World} (t : TypeId) (n : Nat) (ht : Try.prog.underlying t = some (.array n 5)) (hm : Try.prog.eqGuardType Try.prog.depth t = false) (p q : Operand) (la lb : List UInt8) (ha : la.length = n) (hb : lb.length = n) (ho : o.op = .binOp .eql t p q t) (hp : ev p = .agg (bs la)) (hq : ev q = .agg (bs lb)) :
    (execOp ev o).run Try.prog w = .ok (.value (.bool (la == lb))) w := exec_eql t p q _ _ _ hm (eq_bytes w t 5 n ht Try.underlying5 (by kernel_rfl) la lb ha hb) ho hp hq
theorem exec_neqB {o : Oper} {ev : Operand → Value} {w : World} (t : TypeId) (n : Nat) (ht : Try.prog.underlying t = some (.array n 5)) (hm : Try.prog.eqGuardType Try.prog.depth t = false) (p q : Operand) (la lb : List UInt8) (ha : la.length = n) (hb : lb.length = n) (ho : o.op = .binOp .neq t p q t) (hp : ev p = .agg (bs la)) (hq : ev q = .agg (bs lb)) :
    (execOp ev o).run Try.prog w = .ok (.value (.bool (la != lb))) w := exec_neq t p q _ _ _ hm (eq_bytes w t 5 n ht Try.underlying5 (by kernel_rfl) la lb ha hb) ho hp hq
/-- texts -/
theorem exec_eqS {P : Program} {o : Oper} {ev : Operand → Value} {w : World} (p q : Operand) (a b : ByteArray) (r : Bool) (hr : (a.data.toList == b.data.toList) = r) (ho : o.op = .binOp .eql 9 p q 9) (hp : ev p = .string a) (hq : ev q = .string b) : (execOp ev o).run P w = .ok (.value (.bool r)) w := by
  rw [← ByteArray.toList_eq, ← ByteArray.toList_eq] at hr
  unfold execOp
  simp only [ho, hp, hq]
  go_simp
/-- a byte of a text -/
theorem exec_index {o : Oper} {ev : Operand → Value} {w : World} (p q : Operand) (s : ByteArray) (i : Nat) (hi : i < s.size) (ho : o.op = .index 9 p q) (hp : ev p = .string s) (hq : ev q = .int .i64 (i : Int)) : (execOp ev o).run Try.prog w = .ok (.value (.int .u8 ((bAt s i).toNat : Int))) w := by
  have h1 : (i : Int) < (s.size : Int) := by omega
  rw [← bAt_eq s i hi]
  unfold execOp
  simp only [ho, hp, hq]
  go_simp
theorem mapM_some {α β : Type} (f : α → Option β) (g : α → β) : ∀ (l : List α), (∀ x ∈ l, f x = some (g x)) → l.mapM f = some (l.map g)
  | [], _ => by simp
  | x :: l, h => by
    rw [List.mapM_cons, h x (by simp), mapM_some f g l (fun y hy => h y (by simp [hy]))]
    rfl
theorem flat_one {α β : Type} (f : α → β) : ∀ l : List α, (l.map fun x => [f x]).flatten = l.map f
  | [] => rfl
  | x :: l => by rw [List.map_cons, List.flatten_cons, flat_one f l]; rfl
/-- bytes as literals -/
def litB (l : List UInt8) : List Lit := l.map fun x => Lit.int .u8 (x.toNat : Int)
theorem litB_inj {a b : List UInt8} (h : litB a = litB b) : a = b := by
  unfold litB at h
  exact map_inj (fun x : UInt8 => Lit.int .u8 (x.toNat : Int)) (fun x y e => by
    simp only [Lit.int.injEq, true_and] at e
    exact UInt8.toNat_inj.1 (Int.ofNat_inj.1 e)) _ _ h
theorem lits_bytes (d : Nat) (t : TypeId) (n : Nat) (ht : Try.prog.underlying t = some (.array n 5)) (hc : Try.prog.cellsOf t = n) (l : List UInt8) (hl : l.length = n) : Try.prog.keyLits (d + 2) t (l.map B8) = some (litB l) := by
  have h1 : Try.prog.cellsOf 5 = 1 := by kernel_rfl
  have hu : ∀ a : UInt8, Try.prog.keyLits (d + 1) 5 [B8 a] = some [Lit.int .u8 (a.toNat : Int)] := fun a => by
    unfold Program.keyLits
    rw [Try.underlying5]
    show (if IntKind.u8 = IntKind.u8 ∧ (Lit.int .u8 (a.toNat : Int)).wf = true then some [Lit.int .u8 (a.toNat : Int)] else none) = _
    rw [if_pos ⟨rfl, wf8 a⟩]
  unfold Program.keyLits
  rw [ht]
  simp only [List.length_map, hl, hc, if_true, h1, Nat.mul_one]
  rw [mapM_some _ (fun i => [Lit.int .u8 ((l.getD i 0).toNat : Int)]) _ (fun i hi => by
    have hi2 : i < l.length := by rw [hl]; exact List.mem_range.1 hi
    have : ((l.map B8).drop i).take 1 = [B8 (l.getD i 0)] := by
      rw [List.drop_eq_getElem_cons (by simpa using hi2)]
      simp [hi2]
    rw [this, hu])]
  simp only [Option.map_some, Option.some.injEq]
  unfold litB
  apply List.ext_getElem?
  intro j
  rw [flat_one]
  by_cases hj : j < n
  · rw [List.getElem?_map, List.getElem?_map, List.getElem?_range hj]
    rw [List.getElem?_eq_getElem (by omega)]
    simp [show j < l.length from by omega]
  · rw [List.getElem?_eq_none (by simp; omega), List.getElem?_eq_none (by simp; omega)]
end Go.Proofs.Ythpbhimmfmablaa
