/- few: walked; what the document's Take does, by plain functions. -/
import Derived.Test.YthpbhimmfmablaaTYB
namespace Go.Proofs.Ythpbhimmfmablaa
open Go.RowKit
/-- a slice of texts that may be read: its length, its places -/
def Strs (w : World) (a : Option Addr) (len : Nat) (T : Nat → ByteArray) : Prop := ∀ i, i < len → ∃ g off, a = some ⟨g, off, none⟩ ∧ g < w.heap.size ∧ w.cell? ⟨g, off + i, none⟩ = some (.string (T i))
theorem Strs.step {w w' : World} {a : Option Addr} {len : Nat} {T : Nat → ByteArray} (h : Strs w a len T) (hb : Below w.heap.size w w') : Strs w' a len T := by
  intro i hi
  obtain ⟨g, off, h1, h2, h3⟩ := h i hi
  exact ⟨g, off, h1, Nat.lt_of_lt_of_le h2 hb.size, (World.cell?_of_block (hb.block g h2)).trans h3⟩
def FewE (len : Nat) (w : World) (e : Ending) (w' : World) : Prop := ∃ q : Bool, e = .returned (.bool q) ∧ (q = true → len ≤ 60) ∧ w' = w
set_option maxRecDepth 20000 in
set_option maxHeartbeats 1000000 in
theorem few_any (a : Option Addr) (len cap : Nat) (T : Nat → ByteArray) (w : World) (hS : Strs w a len T) : Calls Try.prog 15 #[.slice a len cap] w (FewE len w) := by
  have HS := Lib.hid hS
  clear hS
  go_enter Try.func15, Try.ntmps15
  go_wp2
  go_loop [3] (fun i => ∃ k : Nat, k ≤ len ∧ k ≤ 61 ∧ i = .int .i64 (k : Int)) (fun i => len - (intOf i).toNat)
  case atStart => exact ⟨0, by omega, by omega, rfl⟩
  case round =>
    obtain ⟨k, hk, hk2, rfl⟩ := hrel
    by_cases hlt : k < len
    · have t1 : decide ((k : Int) < (len : Int)) = true := by simp; omega
      have t2 : (k : Int) < (len : Int) := by omega
      by_cases h60 : k ≤ 60
      · have t3 : decide ((k : Int) ≤ 60) = true := by simp; omega
        have t4 : (k : Int) ≤ 60 := by omega
        obtain ⟨g, off, rfl, _, hc⟩ := HS.out k hlt
        by_cases hz : 2000 < (T k).size
        · have t5 : (2000 : Int) < ((T k).size : Int) := by omega
          go_wp2
          go_ret
          exact ⟨false, rfl, (fun h => by cases h), rfl⟩
        · have t5 : ¬ (2000 : Int) < ((T k).size : Int) := by omega
          go_wp2
          refine ⟨⟨k + 1, by omega, by omega, by go_num⟩, by simp [intOf]; omega⟩
      · have t3 : decide ((k : Int) ≤ 60) = false := by simp; omega
        have t4 : ¬ (k : Int) ≤ 60 := by omega
        go_wp2
        go_ret
        exact ⟨_, rfl, (fun h => by have := of_decide_eq_true h; omega), rfl⟩
    · have t1 : decide ((k : Int) < (len : Int)) = false := by simp; omega
      have t2 : ¬ (k : Int) < (len : Int) := by omega
      go_wp2
      go_ret
      exact ⟨_, rfl, (fun h => by have := of_decide_eq_true h; omega), rfl⟩
/-- a list of texts that may be -/
structure Sound (S : List TS) : Prop where
  len : S.length ≤ 8
  ns : (S.map TS.n).Nodup
  ps : ∀ t, t ∈ S → t.ps.length = t.c
  c3 : ∀ t, t ∈ S → t.c ≤ 3
  bd : ∀ t, t ∈ S → Bodies t.ps
theorem JS.sound {B jb : Nat} {W : World} {F : List Nat} {S : List TS} (J : JS B W jb F S) : Sound S := by
  obtain ⟨mb, ov, l, J, _, rfl, hb⟩ := J
  refine ⟨by rw [List.length_map]; exact J.len, ?_, ?_, ?_, ?_⟩
  · rw [List.map_map]
    exact J.ns
  · intro t ht
    obtain ⟨x, hx, rfl⟩ := List.mem_map.1 ht
    exact (J.good x hx).ps
  · intro t ht
    obtain ⟨x, hx, rfl⟩ := List.mem_map.1 ht
    exact (J.good x hx).c3
  · intro t ht
    obtain ⟨x, hx, rfl⟩ := List.mem_map.1 ht
    exact hb x hx
def newS (n c : Nat) : TS := ⟨n, c, List.replicate c none⟩
/-- the texts behind the piece's own, and where its text stands -/
def planO (S : List TS) (n c : Nat) : List TS := if (idxS S n).isSome then S else roomS S ++ [newS n c]
def planK (S : List TS) (n : Nat) : Nat := (idxS S n).getD (roomS S).length
theorem room_len (S : List TS) (h : S.length ≤ 8) : (roomS S).length ≤ 7 := by
  unfold roomS
  split
  · rw [List.length_eraseIdx_of_lt (by omega)]; omega
  · omega
theorem getD_mem (S : List TS) (k : Nat) (h : k < S.length) : S.getD k dT ∈ S := by
  rw [List.getD_eq_getElem?_getD, List.getElem?_eq_getElem h]
  exact List.getElem_mem h
theorem getD_last (A : List TS) (t : TS) : (A ++ [t]).getD A.length dT = t := by
  rw [List.getD_eq_getElem?_getD, List.getElem?_append_right (Nat.le_refl _), Nat.sub_self]
  rfl
theorem plan_spec {S : List TS} (h : Sound S) (n c p : Nat) (b : ByteArray) :
    planK S n < (planO S n c).length ∧ (planO S n c).length ≤ 8 ∧ ((planO S n c).getD (planK S n) dT).ps.length = ((planO S n c).getD (planK S n) dT).c ∧ Bodies ((planO S n c).getD (planK S n) dT).ps ∧
      joinS S n c p b = if ((planO S n c).getD (planK S n) dT).c ≠ c then (planO S n c, [], false, 3) else if (((planO S n c).getD (planK S n) dT).ps.getD p none).isSome then (planO S n c, [], false, 10) else putS (planO S n c) (planK S n) p b := by
  unfold planK planO joinS
  cases hi : idxS S n with
  | some i =>
    obtain ⟨h1, h2⟩ := idxS_some S n i hi
    have hm := getD_mem S i h1
    refine ⟨h1, h.len, h.ps _ hm, h.bd _ hm, ?_⟩
    simp
  | none =>
    have hr := room_len S h.len
    simp only [Option.isSome_none, Option.getD_none, Bool.false_eq_true, if_false]
    rw [getD_last]
    refine ⟨by rw [List.length_append]; simp, by rw [List.length_append]; simp; omega, by simp [newS], Bodies.none c, ?_⟩
    have h0 : (newS n c).c = c := rfl
    have h1 : ((newS n c).ps.getD p none) = none := by
      unfold newS
      rw [List.getD_eq_getElem?_getD, List.getElem?_replicate]
      split <;> rfl
    rw [if_neg (by rw [h0]; simp), h1, if_neg (by simp)]
    rfl
/-- where the loop's k stands -/
def kap (S : List TS) (n : Nat) : Nat → Int
  | 0 => -1
  | j + 1 => if (S.getD j dT).n = n then (j : Int) else kap S n j
theorem kap_none {S : List TS} {n : Nat} (h : idxS S n = none) : ∀ j, j ≤ S.length → kap S n j = -1
  | 0, _ => rfl
  | j + 1, hj => by
    unfold kap
    rw [if_neg (idxS_none S n h _ (getD_mem S j (by omega))), kap_none h j (by omega)]
theorem kap_some {S : List TS} {n i : Nat} (hs : Sound S) (h : idxS S n = some i) : ∀ j, j ≤ S.length → kap S n j = if i < j then (i : Int) else -1
  | 0, _ => rfl
  | j + 1, hj => by
    obtain ⟨h1, h2⟩ := idxS_some S n i h
    unfold kap
    by_cases hji : j = i
    · subst hji
      rw [if_pos h2, if_pos (by omega)]
    · rw [if_neg, kap_some hs h j (by omega)]
      · by_cases hlt : i < j
        · rw [if_pos hlt, if_pos (by omega)]
        · rw [if_neg hlt, if_neg (by omega)]
      · intro he
        apply hji
        have hn := hs.ns
        have e1 : (S.map TS.n)[j]'(by rw [List.length_map]; omega) = n := by
          rw [List.getElem_map]
          rw [List.getD_eq_getElem?_getD, List.getElem?_eq_getElem (by omega : j < S.length)] at he
          exact he
        have e2 : (S.map TS.n)[i]'(by rw [List.length_map]; exact h1) = n := by
          rw [List.getElem_map]
          rw [List.getD_eq_getElem?_getD, List.getElem?_eq_getElem h1] at h2
          exact h2
        exact (List.getElem_inj hn).1 (e1.trans e2.symm)
/-- the first j bodies, one behind the other -/
def accS (ps : List (Option ByteArray)) (j : Nat) : List UInt8 := joinB ((ps.map fun o => o.getD ⟨#[]⟩).take j)
theorem accS_zero (ps : List (Option ByteArray)) : accS ps 0 = [] := rfl
theorem accS_succ (ps : List (Option ByteArray)) (j : Nat) (h : j < ps.length) : accS ps (j + 1) = accS ps j ++ ((ps.getD j none).getD ⟨#[]⟩).data.toList := by
  unfold accS
  rw [joinB_take _ _ (by rw [List.length_map]; exact h)]
  congr 2
  rw [List.getD_eq_getElem?_getD, List.getD_eq_getElem?_getD, List.getElem?_map, List.getElem?_eq_getElem h]
  rfl
theorem accS_all (ps : List (Option ByteArray)) : accS ps ps.length = textS ps := by
  unfold accS textS
  rw [List.take_of_length_le (by rw [List.length_map]; exact Nat.le_refl _)]
theorem accS_size (ps : List (Option ByteArray)) (h : Bodies ps) (j : Nat) (hj : ps.length ≤ 3) : (accS ps j).length ≤ 1536 := by
  unfold accS
  have h1 := joinB_size ((ps.map fun o => o.getD ⟨#[]⟩).take j) 512 (by
    intro b hb
    obtain ⟨o, ho, rfl⟩ := List.mem_map.1 (List.mem_of_mem_take hb)
    cases o with
    | none => exact Nat.zero_le _
    | some x => exact (h x ho).2)
  have h2 : ((ps.map fun o => o.getD ⟨#[]⟩).take j).length ≤ 3 := by
    rw [List.length_take, List.length_map]; omega
  have : ((ps.map fun o => o.getD ⟨#[]⟩).take j).length * 512 ≤ 3 * 512 := Nat.mul_le_mul_right _ h2
  omega
theorem cnt_none {ps : List (Option ByteArray)} {q : Nat} (hq : q < ps.length) (h : ps.getD q none = none) : cntS ps < ps.length := by
  have h1 := cnt_le ps
  by_cases h2 : cntS ps = ps.length
  · have := cnt_all ps h2 q hq
    rw [h] at this
    cases this
  · unfold cntS at h2 ⊢
    omega
theorem cnt_full : ∀ (ps : List (Option ByteArray)), (∀ q, q < ps.length → (ps.getD q none).isSome = true) → cntS ps = ps.length
  | [], _ => rfl
  | o :: r, h => by
    have h0 := h 0 (by simp)
    have ih := cnt_full r (fun q hq => h (q + 1) (by simpa using hq))
    unfold cntS at ih ⊢
    cases o with
    | none => cases h0
    | some x => simp [ih]
/-- the texts behind, in memory -/
structure JunK (base : Nat) (w W : World) (S : List TS) (g cap : Nat) : Prop where
  own : OwK base W (.slice (some ⟨g, 0, none⟩) S.length cap) S
  below : Below base w W
theorem dc_new (n c : Nat) : dc (newS n c) = [V32 n, .int .i64 (c : Int), .bool false, .bool false, .bool false, .string ⟨#[]⟩, .string ⟨#[]⟩, .string ⟨#[]⟩] := by
  have h : ∀ i, (newS n c).ps.getD i none = none := by
    intro i
    unfold newS
    rw [List.getD_eq_getElem?_getD, List.getElem?_replicate]
    split <;> rfl
  unfold dc hasT partT
  rw [h 0, h 1, h 2]
  rfl
/-- texts appended, at an operation of any region -/
theorem exec_appK {o : Oper} {ev : Operand → Value} {w : World} (s x : Operand) (ho : o.op = .call { callee := .builtin .append, args := #[s, x], argTypes := #[47, 47] })
    {base : Nat} {v : Value} {S : List TS} (hs : ev s = v) (hown : OwK base w v S) (T : List TS) (g off c : Nat) (hx : ev x = .slice (some ⟨g, off, none⟩) T.length c) (hcell : ∀ j u, (dcs T)[j]? = some u → w.cell? ⟨g, off + j, none⟩ = some u)
    (hn : S.length + T.length ≤ 10000) (hbase : base ≤ w.heap.size) : ∃ v' w', (execOp ev o).run Try.prog w = .ok (.value v') w' ∧ OwK base w' v' (S ++ T) ∧ w.grownBy w' v.ownBlock := by
  obtain ⟨i0, z, hi, hz0, hzs, hz1, hz2⟩ := dtext_info
  obtain ⟨v', w', hr, h2, h3, _, _⟩ := run_append_own_at (P := Try.prog) w base 47 o.type 74 i0 z 8 72 Try.underlying47 hi hz0 hz1 hz2 hzs (by omega) v S.length (dcs S) hown ⟨g, off, none⟩ T.length c (dcs T) (dcs_length T)
    (fun j u hu => by rw [Addr.add_lit]; exact hcell j u hu) (dcs_one' T) (by unfold maxLen; omega) (by omega) hbase
  refine ⟨v', w', ?_, ?_, h3⟩
  · unfold execOp
    simp only [ho, resolve, invoke, builtin, Sem.run_bind, Sem.run_pure, Result.andThen_ok, List.map_toArray, List.map_cons, List.map_nil, hs, hx, hr]
  · unfold OwK
    rw [List.length_append, dcs_append]
    exact h2
theorem own_empty {base : Nat} {w : World} (hb : base ≤ w.heap.size) (cur : Array Value) (h : cur.size = 0) : OwK base (w.alloc (.cells cur 74)) (.slice (some ⟨w.heap.size, 0, none⟩) 0 0) [] :=
  World.ownsRow_made w cur 0 hb (Nat.zero_le _) (by rw [h])
theorem exec_build0 {o : Oper} {ev : Operand → Value} {w : World} (ho : o.op = .buildSlice 47 0 #[]) : (execOp ev o).run Try.prog w = .ok (.value (.slice (some ⟨w.heap.size, 0, none⟩) 0 0)) (w.alloc (.cells #[] 74)) := by
  unfold execOp
  simp only [ho]
  go_simp
theorem exec_cutHi {o : Oper} {ev : Operand → Value} {w : World} (x y : Operand) (ho : o.op = .slice 47 x none (some y) none) (g n cap k : Nat) (hx : ev x = .slice (some ⟨g, 0, none⟩) n cap) (hy : ev y = .int .i64 (k : Int)) (hk : k ≤ n) (hn : n ≤ cap) :
    (execOp ev o).run Try.prog w = .ok (.value (.slice (some ⟨g, 0, none⟩) k cap)) w := by
  have h1 : (k : Int) ≤ (cap : Int) := by omega
  have h2 : k ≤ cap := by omega
  unfold execOp
  simp only [ho, hx, hy, Option.map]
  go_simp
theorem exec_cutLo {o : Oper} {ev : Operand → Value} {w : World} (x : Operand) (y : Operand) (ho : o.op = .slice 47 x (some y) none none) (g n cap k : Nat) (kz : Int) (hkz : kz = (k : Int)) (hx : ev x = .slice (some ⟨g, 0, none⟩) n cap) (hy : ev y = .int .i64 kz) (hk : k ≤ n) :
    (execOp ev o).run Try.prog w = .ok (.value (.slice (some ⟨g, if cap = k then 0 else k * 8, none⟩) (n - k) (cap - k))) w := by
  subst hkz
  have h1 : (k : Int) ≤ (n : Int) := by omega
  have h2 : k ≤ n := by omega
  by_cases hc : cap = k
  · rw [if_pos hc]
    unfold execOp
    simp only [ho, hx, hy, Option.map]
    go_simp
  · rw [if_neg hc]
    unfold execOp
    simp only [ho, hx, hy, Option.map]
    go_simp
theorem onlyAppK {ops : Array Oper} {Q : Exit → Act → World → Prop} {md : Region.Mode} {fuel : Nat} {listed : Array Bool} {a : Act} {w : World} (i d : Nat) (o : Oper) (hr : Region.ready md ops listed = [i]) (hi : ops[i]? = some o)
    (hw : Region.wanted o (yielded ops a.tmps) = true) (hd : o.dst = some d) (s x : Operand) (ho : o.op = .call { callee := .builtin .append, args := #[s, x], argTypes := #[47, 47] })
    {base : Nat} {v : Value} {S : List TS} (hs : a.eval s = v) (hown : OwK base w v S) (T : List TS) (g off c : Nat) (hx : a.eval x = .slice (some ⟨g, off, none⟩) T.length c) (hcell : ∀ j u, (dcs T)[j]? = some u → w.cell? ⟨g, off + j, none⟩ = some u)
    (hn : S.length + T.length ≤ 10000) (hbase : base ≤ w.heap.size)
    (h : ∀ v' w', OwK base w' v' (S ++ T) → w.grownBy w' v.ownBlock → wpAnyH Try.prog md ops Q (fun _ => True) fuel (listed.setIfInBounds i true) (a.put (some d) v') w') : wpAnyH Try.prog md ops Q (fun _ => True) (fuel + 1) listed a w := by
  obtain ⟨v', w', hr', h1, h2⟩ := exec_appK (o := o) (ev := a.eval) (w := w) s x ho hs hown T g off c hx hcell hn hbase
  exact onlyVal i d v' w' o hr hi hw hd hr' trivial (h v' w' h1 h2)
/-- what is laid down for a new text -/
theorem new_cells (W : World) (n c : Nat) (j : Nat) (u : Value) (hu : (dcs [newS n c])[j]? = some u) : (W.alloc (.cells #[V32 n, .int .i64 (c : Int), .bool false, .bool false, .bool false, .string ⟨#[]⟩, .string ⟨#[]⟩, .string ⟨#[]⟩] 74)).cell? ⟨W.heap.size, 0 + j, none⟩ = some u := by
  rw [dcs_one, dc_new] at hu
  rw [Nat.zero_add, (Has.fresh W _ _).cell j, ← Array.getElem?_toList]
  exact hu
/-- texts appended to no slice at all -/
theorem wpList_app0 {ops : Array Oper} {rest : List Oper} {o : Oper} {a : Act} {Q : Exit → Act → World → Prop} {w : World} (hgd : o.guard = none) (s x : Operand) (ho : o.op = .call { callee := .builtin .append, args := #[s, x], argTypes := #[47, 47] })
    {base : Nat} (hs : a.eval s = .slice none 0 0) (T : List TS) (vx : Value) (hx : a.eval x = vx) (hT : (vx = .slice none 0 0 ∧ T = []) ∨ ∃ g off c, vx = .slice (some ⟨g, off, none⟩) T.length c ∧ ∀ j u, (dcs T)[j]? = some u → w.cell? ⟨g, off + j, none⟩ = some u)
    (hn : T.length ≤ 10000) (hbase : base ≤ w.heap.size) (h : ∀ v' w', OwK base w' v' T → w.grownBy w' none → wpList Try.prog ops Q rest (a.put o.dst v') w') : wpList Try.prog ops Q (o :: rest) a w := by
  rcases hT with ⟨rfl, rfl⟩ | ⟨g, off, c, rfl, hc⟩
  · refine wpExec hgd (.slice none 0 0) (exec_append s x 47 _ _ ho hs hx (fun ty => run_append_none w ty)) ?_
    exact h _ _ (OwK.nil _ _) ⟨rfl, rfl, rfl, Nat.le_refl _, fun _ _ _ => rfl⟩
  · exact wpList_appK hgd s x ho hs (OwK.nil base w) T g off c hx hc (by simpa using hn) hbase (fun v' w' h1 h2 _ => h v' w' (by rw [List.nil_append] at h1; exact h1) h2)
/-- the cells of a slice's beginning, and of its end -/
theorem take_cells {W : World} {g : Nat} {O : List TS} (k : Nat) (h : ∀ j u, (dcs O)[j]? = some u → W.cell? ⟨g, j, none⟩ = some u) (j : Nat) (u : Value) (hu : (dcs (O.take k))[j]? = some u) : W.cell? ⟨g, 0 + j, none⟩ = some u := by
  rw [dcs_take, List.getElem?_take] at hu
  split at hu
  · rw [Nat.zero_add]; exact h j u hu
  · cases hu
theorem drop_cells {W : World} {g : Nat} {O : List TS} (k off : Nat) (ho : k < O.length → off = k * 8) (h : ∀ j u, (dcs O)[j]? = some u → W.cell? ⟨g, j, none⟩ = some u) (j : Nat) (u : Value) (hu : (dcs (O.drop k))[j]? = some u) : W.cell? ⟨g, off + j, none⟩ = some u := by
  by_cases hk : k < O.length
  · rw [ho hk]
    rw [dcs_drop, List.getElem?_drop] at hu
    exact h _ u hu
  · rw [List.drop_eq_nil_of_le (by omega)] at hu
    simp [dcs] at hu
/-- what Take answers, whatever the texts' slice -/
def TookK (e : Ending) (w' w : World) (v : Value) (R : Told) : Prop := ∃ v', e = told4 v' R.2.1 R.2.2.1 R.2.2.2 ∧ DL w' v' R.1 ∧ (∀ g, v'.ownBlock = some g → v.ownBlock = some g ∨ w.heap.size ≤ g) ∧ Below w.heap.size w w'
end Go.Proofs.Ythpbhimmfmablaa
