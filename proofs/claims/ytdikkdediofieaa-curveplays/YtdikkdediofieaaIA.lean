/- Slices of ints that hold digits: owned, and read. -/
import Derived.Test.YtdikkdediofieaaRows
import Derived.Test.YtdikkdediofieaaPA
import Derived.Test.YtdikkdediofieaaHR
import Derived.Test.YtdikkdediofieaaHG2
import Derived.WalkKit
import Derived.BigQuiet
import Derived.Lib.Hide
import Derived.Lib.BufferWrite
import Derived.Laws.BytesArg
import Derived.RegionTactic
import Derived.BigRegion
namespace Go.Proofs.Ytdikkdediofieaa
open Go.RowKit
theorem addr_addI (g j : Nat) : (⟨g, 0, none⟩ : Addr).add j = ⟨g, j, none⟩ := by unfold Addr.add; split <;> simp_all
theorem tdivI (a : Nat) (b : Nat) : (a : Int).tdiv (b : Int) = ((a / b : Nat) : Int) := rfl
theorem tmodI (a : Nat) (b : Nat) : (a : Int).tmod (b : Int) = ((a % b : Nat) : Int) := rfl
abbrev I64 (n : Nat) : Value := .int .i64 (n : Int)
theorem int_info : (Try.prog.info? 3).map (fun i => (i.zero, i.size, i.bytes)) = some (some (.int .i64 0), 1, 8) := by kernel_rfl
/-- a slice of the call's own, of these ints -/
def Ow (base : Nat) (W : World) (v : Value) (l : List Nat) : Prop := W.ownsRow base 3 1 v l.length (l.map I64)
/-- a slice that may be read: its block lies below B -/
def Rd (B : Nat) (W : World) (v : Value) (l : List Nat) : Prop :=
  ∃ a cap, v = .slice a l.length cap ∧ l.length ≤ cap ∧ (0 < l.length → ∃ g, a = some ⟨g, 0, none⟩ ∧ g < B ∧ ∀ j, j < l.length → W.cell? ⟨g, j, none⟩ = some (I64 (l.getD j 0)))
theorem Rd.step {B : Nat} {W W' : World} {v : Value} {l : List Nat} (h : Rd B W v l) (hb : Below B W W') : Rd B W' v l := by
  obtain ⟨a, cap, rfl, hc, h2⟩ := h
  refine ⟨a, cap, rfl, hc, fun h0 => ?_⟩
  obtain ⟨g, rfl, hg, hcell⟩ := h2 h0
  exact ⟨g, rfl, hg, fun j hj => (hb.cell (p := ⟨g, j, none⟩) hg).trans (hcell j hj)⟩
theorem Rd.mono {B B' : Nat} {W : World} {v : Value} {l : List Nat} (h : Rd B W v l) (hB : B ≤ B') : Rd B' W v l := by
  obtain ⟨a, cap, rfl, hc, h2⟩ := h
  refine ⟨a, cap, rfl, hc, fun h0 => ?_⟩
  obtain ⟨g, rfl, hg, hcell⟩ := h2 h0
  exact ⟨g, rfl, by omega, hcell⟩
theorem Rd.take {B : Nat} {W : World} {g cap : Nat} {l : List Nat} (h : Rd B W (.slice (some ⟨g, 0, none⟩) l.length cap) l) (h0 : 0 < l.length) (n : Nat) (hn : n ≤ l.length) : Rd B W (.slice (some ⟨g, 0, none⟩) n cap) (l.take n) := by
  obtain ⟨a, cap', hv, hc, h2⟩ := h
  injection hv with e1 e2 e3
  subst e1 e3
  obtain ⟨g', e, hg, hcell⟩ := h2 h0
  injection e with e
  injection e with e
  subst e
  have hl : (l.take n).length = n := by rw [List.length_take]; omega
  refine ⟨_, _, by rw [hl], by omega, fun _ => ⟨_, rfl, hg, fun j hj => ?_⟩⟩
  rw [hl] at hj
  rw [hcell j (by omega), List.getD_eq_getElem?_getD, List.getD_eq_getElem?_getD, List.getElem?_take_of_lt hj]
section
variable {base : Nat} {W : World} {v : Value} {l : List Nat}
theorem Ow.nil (base : Nat) (W : World) : Ow base W (.slice none 0 0) [] := World.ownsRow_nil _ _ _ _
theorem Ow.alloc (h : Ow base W v l) (o : Obj) : Ow base (W.alloc o) v l := World.ownsRow.alloc h o
theorem Ow.form (h : Ow base W v l) : ∃ a cap, v = .slice a l.length cap := by
  rcases h.2 with ⟨rfl, h0⟩ | ⟨g, cap, _, rfl, _⟩
  · exact ⟨none, 0, by rw [h0]⟩
  · exact ⟨_, _, rfl⟩
theorem Ow.parts (h : Ow base W v l) (h0 : 0 < l.length) : ∃ g cap, v = .slice (some ⟨g, 0, none⟩) l.length cap ∧ base ≤ g ∧ g < W.heap.size ∧ l.length ≤ cap ∧ (∀ j, j < l.length → W.cell? ⟨g, j, none⟩ = some (I64 (l.getD j 0))) ∧ (∀ j, W.frozen? ⟨g, j, none⟩ = false) := by
  have hh := h
  unfold Ow at hh
  rcases h.2 with ⟨_, h1⟩ | ⟨g, cap, cur, rfl, hg, hh2, hnc, _, _, _⟩
  · omega
  · refine ⟨g, cap, rfl, hg, (Array.getElem?_eq_some_iff.1 hh2).1, hnc, fun j hj => ?_, fun j => hh.frozenAt j⟩
    rw [hh.cellAt j (by omega), List.getElem?_map, List.getD_eq_getElem?_getD, List.getElem?_eq_getElem hj]
    rfl
theorem Ow.rd (h : Ow base W v l) : Rd W.heap.size W v l := by
  rcases Nat.eq_zero_or_pos l.length with h0 | h0
  · obtain ⟨a, cap, rfl⟩ := h.form
    exact ⟨a, cap, rfl, by omega, fun h1 => by omega⟩
  · obtain ⟨g, cap, rfl, _, hg, hc, hcell, _⟩ := h.parts h0
    exact ⟨_, _, rfl, hc, fun _ => ⟨g, rfl, hg, hcell⟩⟩
theorem Ow.put {g cap : Nat} (h : Ow base W (.slice (some ⟨g, 0, none⟩) l.length cap) l) (j y : Nat) : Ow base (W.setCell ⟨g, j, none⟩ (I64 y)) (.slice (some ⟨g, 0, none⟩) l.length cap) (l.set j y) := by
  have hh := h
  unfold Ow at hh
  have h2 := hh.stored j (I64 y)
  unfold Ow
  rw [List.length_set, List.map_set]
  exact h2.1
theorem Ow.lit (W : World) (l : List Nat) (hb : base ≤ W.heap.size) (hm : l.length ≤ 100000) : Ow base (W.alloc (.cells (l.map I64).toArray 3)) (.slice (some ⟨W.heap.size, 0, none⟩) l.length l.length) l := by
  have h := World.ownsRow_lit (base := base) (e := 3) (size := 1) W (l.map I64).toArray l.length hb (by unfold maxLen; omega) (by simp)
  simpa [Ow] using h
end
/-- ints as cells -/
def is (l : List Nat) : Array Value := (l.map I64).toArray
theorem is_size (l : List Nat) : (is l).size = l.length := by simp [is]
theorem Has.i64 {w : World} {g : Nat} {t : TypeId} {l : List Nat} (h : Has w g t (is l)) (i : Nat) (hi : i < l.length) : w.cell? ⟨g, i, none⟩ = some (I64 (l.getD i 0)) := by
  rw [h.cell]; simp [is, hi]
theorem Has.setI {w : World} {g : Nat} {t : TypeId} {l : List Nat} (h : Has w g t (is l)) (i x : Nat) : Has (w.setCell ⟨g, i, none⟩ (I64 x)) g t (is (l.set i x)) := by
  have h2 := h.set i (I64 x)
  have e : (is l).setIfInBounds i (I64 x) = is (l.set i x) := by simp [is, List.map_set]
  rw [e] at h2; exact h2
theorem Has.rdI {w : World} {g : Nat} {l : List Nat} (h : Has w g 3 (is l)) : Rd w.heap.size w (.slice (some ⟨g, 0, none⟩) l.length l.length) l :=
  ⟨_, _, rfl, Nat.le_refl _, fun _ => ⟨g, rfl, h.lt, fun j hj => h.i64 j hj⟩⟩
theorem made_is (n : Nat) : madeCells #[.int .i64 0] n = is (List.replicate n 0) := by
  apply Array.toList_inj.1
  rw [toList_madeCells_one]
  simp [is]
theorem make_ints (m : Nat) (hm : m ≤ 100000) (w : World) :
    (Instr.makeSlice 47 (.int .i64 (m : Int)) (.int .i64 (m : Int))).run Try.prog w = .ok (.slice (some ⟨w.heap.size, 0, none⟩) m m) (w.alloc (.cells (is (List.replicate m 0)) 3)) := by
  obtain ⟨i, hi, hz0, hz1, hz2⟩ := info_parts int_info
  have h := run_make (P := Try.prog) w 47 3 i (.int .i64 0) Try.underlying47 hi hz0 .i64 .i64 m m (by omega) (by omega) (by rw [hz2]; omega) (by omega)
  rw [h, hz1, Int.toNat_natCast, Nat.mul_one, ← made_is]
  rfl
theorem i64_one (l : List Nat) : ∀ u ∈ l.map I64, u.oneCell' = true := by
  intro u hu
  obtain ⟨x, _, rfl⟩ := List.mem_map.1 hu
  rfl
/-- ints appended to a slice of the call's own -/
theorem wpList_appN {ops : Array Oper} {rest : List Oper} {o : Oper} {a : Act} {Q : Exit → Act → World → Prop} {w : World} (hgd : o.guard = none) (s x : Operand) (ho : o.op = .call { callee := .builtin .append, args := #[s, x], argTypes := #[47, 47] })
    {base : Nat} {v : Value} {l : List Nat} (hs : a.eval s = v) (hown : Ow base w v l) (g c : Nat) (m : List Nat) (hx : a.eval x = .slice (some ⟨g, 0, none⟩) m.length c) (hcell : ∀ j, j < m.length → w.cell? ⟨g, j, none⟩ = some (I64 (m.getD j 0)))
    (hn : l.length + m.length ≤ 100000) (hbase : base ≤ w.heap.size) (h : ∀ v' w', Ow base w' v' (l ++ m) → Below base w w' → wpList Try.prog ops Q rest (a.put o.dst v') w') : wpList Try.prog ops Q (o :: rest) a w := by
  obtain ⟨i0, hi0, hz0, hz1, hz2⟩ := info_parts int_info
  refine wpList_append_own _ hgd s x 47 ho base 3 i0 _ 1 8 Try.underlying47 hi0 hz0 hz1 hz2 rfl (by omega) v l.length (l.map I64) hs hown ⟨g, 0, none⟩ m.length c (m.map I64) hx (by rw [List.length_map]; omega)
    (fun j u hu => ?_) (i64_one m) (by unfold maxLen; omega) (by omega) hbase (fun v' w' h1 h2 _ => ?_)
  · rw [addr_addI]
    have hj : j < m.length := by
      have := (List.getElem?_eq_some_iff.1 hu).1
      simpa using this
    rw [hcell j hj, ← hu, List.getElem?_map, List.getD_eq_getElem?_getD, List.getElem?_eq_getElem hj]
    rfl
  · refine h v' w' ?_ ((Below.refl base w).grown h2 hbase (fun j hj => (World.ownsRow.lt hown j hj).1))
    unfold Ow
    rw [List.length_append, List.map_append]
    exact h1
theorem wpList_app1 {ops : Array Oper} {rest : List Oper} {o : Oper} {a : Act} {Q : Exit → Act → World → Prop} {w : World} (hgd : o.guard = none) (s x : Operand) (ho : o.op = .call { callee := .builtin .append, args := #[s, x], argTypes := #[47, 47] })
    {base : Nat} {v : Value} {l : List Nat} (hs : a.eval s = v) (hown : Ow base w v l) (g c y : Nat) (hx : a.eval x = .slice (some ⟨g, 0, none⟩) 1 c) (hcell : w.cell? ⟨g, 0, none⟩ = some (I64 y))
    (hn : l.length ≤ 10000) (hbase : base ≤ w.heap.size) (h : ∀ v' w', Ow base w' v' (l ++ [y]) → Below base w w' → wpList Try.prog ops Q rest (a.put o.dst v') w') : wpList Try.prog ops Q (o :: rest) a w :=
  wpList_appN hgd s x ho hs hown g c [y] hx (fun j hj => by obtain rfl : j = 0 := by simpa using hj
                                                            exact hcell) (by simp; omega) hbase h
theorem num_snoc (B : Nat) (l : List Nat) (y : Nat) : num B (l ++ [y]) = num B l + y * B ^ l.length := by
  rw [num_append]; simp [num, Nat.mul_comm]
theorem take_getD (l : List Nat) (i : Nat) (h : i < l.length) : l.take (i + 1) = l.take i ++ [l.getD i 0] := by
  rw [List.take_succ_eq_append_getElem h, List.getD_eq_getElem?_getD, List.getElem?_eq_getElem h]
  rfl
theorem getD_any (l : List Nat) (h : Dig 256 l) (j : Nat) : l.getD j 0 = num 256 l / 256 ^ j % 256 := by
  rcases Nat.lt_or_ge j l.length with hj | hj
  · exact getD_num 256 l h j hj
  · have h1 := num_lt 256 l h
    have h2 : 256 ^ l.length ≤ 256 ^ j := Nat.pow_le_pow_right (by omega) hj
    rw [List.getD_eq_getElem?_getD, List.getElem?_eq_none hj, Nat.div_eq_of_lt (by omega)]
    rfl
theorem Ow.mono {base base' : Nat} {W : World} {v : Value} {l : List Nat} (h : Ow base W v l) (hb : base' ≤ base) : Ow base' W v l := by
  refine ⟨h.1, ?_⟩
  rcases h.2 with h1 | ⟨g, cap, cur, h1, h2, h3⟩
  · exact Or.inl h1
  · exact Or.inr ⟨g, cap, cur, h1, by omega, h3⟩
theorem wpList_appL {ops : Array Oper} {rest : List Oper} {o : Oper} {a : Act} {Q : Exit → Act → World → Prop} {w : World} (hgd : o.guard = none) (s x : Operand) (ho : o.op = .call { callee := .builtin .append, args := #[s, x], argTypes := #[47, 47] })
    {base : Nat} {v : Value} {l : List Nat} (hs : a.eval s = v) (hown : Ow base w v l) (g c : Nat) (m : List Nat) (nm : Nat) (hm : m.length = nm) (hx : a.eval x = .slice (some ⟨g, 0, none⟩) nm c) (hcell : ∀ j, j < nm → w.cell? ⟨g, j, none⟩ = some (I64 (m.getD j 0)))
    (hn : l.length + nm ≤ 100000) (hbase : base ≤ w.heap.size) (h : ∀ v' w', Ow base w' v' (l ++ m) → Below base w w' → wpList Try.prog ops Q rest (a.put o.dst v') w') : wpList Try.prog ops Q (o :: rest) a w := by
  subst hm
  exact wpList_appN hgd s x ho hs hown g c m hx hcell hn hbase h
def lenOf : Value → Nat
  | .slice _ n _ => n
  | _ => 0
theorem num_pad (l : List Nat) : num 256 (l ++ [0]) = num 256 l := by rw [num_snoc, Nat.zero_mul, Nat.add_zero]
end Go.Proofs.Ytdikkdediofieaa
