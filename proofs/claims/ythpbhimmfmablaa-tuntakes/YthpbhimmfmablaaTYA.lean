/- The document's texts as a row of cells, eight a text; slices of the call's own, of them. No program is run here. -/
import Derived.Test.YthpbhimmfmablaaTUY
import Derived.Test.YthpbhimmfmablaaTUJ
import Derived.Maps.AppendAt
namespace Go.Proofs.Ythpbhimmfmablaa
open Go.RowKit
abbrev V32 (n : Nat) : Value := .int .u32 (n : Int)
def hasT (t : TS) (i : Nat) : Bool := (t.ps.getD i none).isSome
def partT (t : TS) (i : Nat) : ByteArray := (t.ps.getD i none).getD ⟨#[]⟩
/-- a text's cells -/
def dc (t : TS) : List Value := [V32 t.n, .int .i64 (t.c : Int), .bool (hasT t 0), .bool (hasT t 1), .bool (hasT t 2), .string (partT t 0), .string (partT t 1), .string (partT t 2)]
def dcs : List TS → List Value
  | [] => []
  | t :: r => dc t ++ dcs r
theorem dc_length (t : TS) : (dc t).length = 8 := rfl
theorem dcs_length : ∀ S : List TS, (dcs S).length = S.length * 8
  | [] => rfl
  | t :: r => by
    show (dc t ++ dcs r).length = (r.length + 1) * 8
    rw [List.length_append, dc_length, dcs_length r]
    omega
theorem dcs_append : ∀ S T : List TS, dcs (S ++ T) = dcs S ++ dcs T
  | [], T => rfl
  | t :: r, T => by
    show dc t ++ dcs (r ++ T) = (dc t ++ dcs r) ++ dcs T
    rw [dcs_append r T, List.append_assoc]
theorem dcs_get : ∀ (S : List TS) (k j : Nat), k < S.length → j < 8 → (dcs S)[k * 8 + j]? = (dc (S.getD k dT))[j]?
  | [], k, j, h, _ => by simp at h
  | t :: r, 0, j, _, hj => by
    show (dc t ++ dcs r)[0 * 8 + j]? = (dc t)[j]?
    rw [Nat.zero_mul, Nat.zero_add, List.getElem?_append_left (by rw [dc_length]; exact hj)]
  | t :: r, k + 1, j, hk, hj => by
    show (dc t ++ dcs r)[(k + 1) * 8 + j]? = (dc (r.getD k dT))[j]?
    rw [List.getElem?_append_right (by rw [dc_length]; omega), dc_length, ← dcs_get r k j (by simpa using hk) hj]
    congr 1
    omega
theorem dcs_one (t : TS) : dcs [t] = dc t := by
  show dc t ++ [] = dc t
  rw [List.append_nil]
theorem dcs_take : ∀ (S : List TS) (k : Nat), dcs (S.take k) = (dcs S).take (k * 8)
  | [], k => by simp [dcs]
  | t :: r, 0 => by simp [dcs]
  | t :: r, k + 1 => by
    show dc t ++ dcs (r.take k) = (dc t ++ dcs r).take ((k + 1) * 8)
    rw [dcs_take r k, show (k + 1) * 8 = (dc t).length + k * 8 from by rw [dc_length]; omega, List.take_length_add_append]
theorem dcs_drop : ∀ (S : List TS) (k : Nat), dcs (S.drop k) = (dcs S).drop (k * 8)
  | [], k => by simp [dcs]
  | t :: r, 0 => by simp [dcs]
  | t :: r, k + 1 => by
    show dcs (r.drop k) = (dc t ++ dcs r).drop ((k + 1) * 8)
    rw [dcs_drop r k, show (k + 1) * 8 = (dc t).length + k * 8 from by rw [dc_length]; omega, List.drop_length_add_append]
theorem dcs_erase (S : List TS) (k : Nat) : dcs (S.eraseIdx k) = (dcs S).take (k * 8) ++ (dcs S).drop ((k + 1) * 8) := by
  rw [List.eraseIdx_eq_take_drop_succ, dcs_append, dcs_take, dcs_drop]
theorem dcs_one' (S : List TS) : ∀ u ∈ dcs S, u.oneCell' = true := by
  induction S with
  | nil => intro u hu; cases hu
  | cons t r ih =>
    intro u hu
    rcases List.mem_append.1 (show u ∈ dc t ++ dcs r from hu) with h | h
    · simp only [dc, List.mem_cons, List.not_mem_nil, or_false] at h
      rcases h with h | h | h | h | h | h | h | h <;> (subst h; rfl)
    · exact ih u h
/-- the cells of a text whose piece p comes -/
theorem dc_put (t : TS) (p : Nat) (b : ByteArray) (hp : p < t.ps.length) (h3 : p < 3) : ((dc t).set (2 + p) (.bool true)).set (5 + p) (.string b) = dc ⟨t.n, t.c, t.ps.set p (some b)⟩ := by
  have hh : ∀ i, hasT ⟨t.n, t.c, t.ps.set p (some b)⟩ i = if p = i then true else hasT t i := by
    intro i
    unfold hasT
    simp only [List.getD_eq_getElem?_getD, List.getElem?_set]
    by_cases h : p = i
    · subst h
      simp [hp]
    · simp [h]
  have hb : ∀ i, partT ⟨t.n, t.c, t.ps.set p (some b)⟩ i = if p = i then b else partT t i := by
    intro i
    unfold partT
    simp only [List.getD_eq_getElem?_getD, List.getElem?_set]
    by_cases h : p = i
    · subst h
      simp [hp]
    · simp [h]
  unfold dc
  simp only [hh, hb]
  rcases (show p = 0 ∨ p = 1 ∨ p = 2 by omega) with rfl | rfl | rfl <;> rfl
theorem dcs_put : ∀ (S : List TS) (k p : Nat) (b : ByteArray), k < S.length → p < (S.getD k dT).ps.length → p < 3 →
    ((dcs S).set (k * 8 + 2 + p) (.bool true)).set (k * 8 + 5 + p) (.string b) = dcs (S.set k ⟨(S.getD k dT).n, (S.getD k dT).c, (S.getD k dT).ps.set p (some b)⟩)
  | [], k, p, b, h, _, _ => by simp at h
  | t :: r, 0, p, b, _, hp, h3 => by
    have hp' : p < t.ps.length := hp
    show ((dc t ++ dcs r).set (0 * 8 + 2 + p) (.bool true)).set (0 * 8 + 5 + p) (.string b) = dc ⟨t.n, t.c, t.ps.set p (some b)⟩ ++ dcs r
    rw [← dc_put t p b hp' h3, Nat.zero_mul, Nat.zero_add, Nat.zero_add, List.set_append_left _ _ (by rw [dc_length]; omega), List.set_append_left _ _ (by rw [List.length_set, dc_length]; omega)]
  | t :: r, k + 1, p, b, hk, hp, h3 => by
    show ((dc t ++ dcs r).set ((k + 1) * 8 + 2 + p) (.bool true)).set ((k + 1) * 8 + 5 + p) (.string b) = dc t ++ dcs (r.set k ⟨(r.getD k dT).n, (r.getD k dT).c, (r.getD k dT).ps.set p (some b)⟩)
    rw [← dcs_put r k p b (by simpa using hk) hp h3, List.set_append_right _ _ (by rw [dc_length]; omega), List.set_append_right _ _ (by rw [dc_length]; omega), dc_length]
    congr 3
    · omega
    · omega
/-! Slices of the call's own -/
def OwK (base : Nat) (W : World) (v : Value) (S : List TS) : Prop := W.ownsRow base 74 8 v S.length (dcs S)
section
variable {base : Nat} {W : World} {v : Value} {S : List TS}
theorem OwK.nil (base : Nat) (W : World) : OwK base W (.slice none 0 0) [] := World.ownsRow_nil _ _ _ _
theorem OwK.alloc (h : OwK base W v S) (o : Obj) : OwK base (W.alloc o) v S := World.ownsRow.alloc h o
theorem OwK.lt (h : OwK base W v S) : ∀ k, v.ownBlock = some k → base ≤ k ∧ k < W.heap.size := World.ownsRow.lt h
theorem OwK.step {W' : World} (h : OwK base W v S) (hb : Below W.heap.size W W') : OwK base W' v S := by
  obtain ⟨h1, h2⟩ := h
  refine ⟨h1, ?_⟩
  rcases h2 with h2 | ⟨g, cap, cur, rfl, hg2, h4, h5⟩
  · exact Or.inl h2
  · exact Or.inr ⟨g, cap, cur, rfl, hg2, (hb.block g (Array.getElem?_eq_some_iff.1 h4).1).trans h4, h5⟩
theorem OwK.parts (h : OwK base W v S) (h0 : 0 < S.length) : ∃ g cap, v = .slice (some ⟨g, 0, none⟩) S.length cap ∧ base ≤ g ∧ g < W.heap.size ∧ S.length ≤ cap ∧ cap ≤ maxLen ∧ (∀ j u, (dcs S)[j]? = some u → W.cell? ⟨g, j, none⟩ = some u) ∧ (∀ j, W.frozen? ⟨g, j, none⟩ = false) := by
  have hh := h
  unfold OwK at hh
  rcases h.2 with ⟨_, h1⟩ | ⟨g, cap, cur, rfl, hg, hh2, hnc, hcm, hcs, htk⟩
  · omega
  · refine ⟨g, cap, rfl, hg, (Array.getElem?_eq_some_iff.1 hh2).1, hnc, hcm, fun j u hu => ?_, fun j => hh.frozenAt j⟩
    have := hh.cells (g := g) rfl j u hu
    rwa [addr_add] at this
theorem OwK.put {g cap k p : Nat} (h : OwK base W (.slice (some ⟨g, 0, none⟩) S.length cap) S) (b : ByteArray) (hk : k < S.length) (hp : p < (S.getD k dT).ps.length) (h3 : p < 3) :
    OwK base ((W.setCell ⟨g, k * 8 + 2 + p, none⟩ (.bool true)).setCell ⟨g, k * 8 + 5 + p, none⟩ (.string b)) (.slice (some ⟨g, 0, none⟩) S.length cap) (S.set k ⟨(S.getD k dT).n, (S.getD k dT).c, (S.getD k dT).ps.set p (some b)⟩) := by
  have hh := h
  unfold OwK at hh
  have h2 := (hh.stored (k * 8 + 2 + p) (.bool true)).1
  have h4 := (h2.stored (k * 8 + 5 + p) (.string b)).1
  unfold OwK
  rw [List.length_set, ← dcs_put S k p b hk hp h3]
  exact h4
end
/-- texts that may be read behind this slice -/
def DL (W : World) (v : Value) (S : List TS) : Prop := (v = .slice none 0 0 ∧ S = []) ∨ ∃ g cap, v = .slice (some ⟨g, 0, none⟩) S.length cap ∧ S.length ≤ cap ∧ cap ≤ maxLen ∧ g < W.heap.size ∧ ∀ j u, (dcs S)[j]? = some u → W.cell? ⟨g, j, none⟩ = some u
theorem DL.of_own {base : Nat} {W : World} {v : Value} {S : List TS} (h : OwK base W v S) : DL W v S := by
  by_cases h0 : 0 < S.length
  · obtain ⟨g, cap, rfl, _, h2, h3, h4, h5, _⟩ := h.parts h0
    exact Or.inr ⟨g, cap, rfl, h3, h4, h2, h5⟩
  · have hS : S = [] := List.eq_nil_of_length_eq_zero (by omega)
    subst hS
    rcases h.2 with ⟨rfl, _⟩ | ⟨g, cap, cur, rfl, hg, hh2, hnc, hcm, _⟩
    · exact Or.inl ⟨rfl, rfl⟩
    · exact Or.inr ⟨g, cap, rfl, hnc, hcm, (Array.getElem?_eq_some_iff.1 hh2).1, fun j u hu => by simp [dcs] at hu⟩
theorem DL.step {W W' : World} {v : Value} {S : List TS} (h : DL W v S) (hb : Below W.heap.size W W') : DL W' v S := by
  rcases h with h | ⟨g, cap, rfl, h1, h2, h3, h4⟩
  · exact Or.inl h
  · exact Or.inr ⟨g, cap, rfl, h1, h2, Nat.lt_of_lt_of_le h3 hb.size, fun j u hu => (World.cell?_of_block (hb.block g h3)).trans (h4 j u hu)⟩
theorem DL.kp {F : List Nat} {W W' : World} {v : Value} {S : List TS} (h : DL W v S) (k : Kp F W W') (hF : ∀ g, v.ownBlock = some g → g ∉ F) : DL W' v S := by
  rcases h with h | ⟨g, cap, rfl, h1, h2, h3, h4⟩
  · exact Or.inl h
  · exact Or.inr ⟨g, cap, rfl, h1, h2, Nat.lt_of_lt_of_le h3 k.size, fun j u hu => (World.cell?_of_block (k.block g h3 (hF g rfl))).trans (h4 j u hu)⟩
theorem DL.lt {W : World} {v : Value} {S : List TS} (h : DL W v S) : ∀ g, v.ownBlock = some g → g < W.heap.size := by
  rcases h with ⟨rfl, _⟩ | ⟨g, cap, rfl, _, _, h3, _⟩
  · intro g hg; cases hg
  · intro g' hg
    injection hg with hg
    subst hg
    exact h3
theorem dtext_info : ∃ i0 z, Try.prog.info? 74 = some i0 ∧ i0.zero = some z ∧ z.cells.size = 8 ∧ i0.size = 8 ∧ i0.bytes = 72 := by
  refine ⟨_, _, rfl, rfl, ?_, ?_, ?_⟩ <;> kernel_rfl
/-- texts appended to a slice of the call's own -/
theorem wpList_appK {ops : Array Oper} {rest : List Oper} {o : Oper} {a : Act} {Q : Exit → Act → World → Prop} {w : World} (hgd : o.guard = none) (s x : Operand) (ho : o.op = .call { callee := .builtin .append, args := #[s, x], argTypes := #[47, 47] })
    {base : Nat} {v : Value} {S : List TS} (hs : a.eval s = v) (hown : OwK base w v S) (T : List TS) (g off c : Nat) (hx : a.eval x = .slice (some ⟨g, off, none⟩) T.length c) (hcell : ∀ j u, (dcs T)[j]? = some u → w.cell? ⟨g, off + j, none⟩ = some u)
    (hn : S.length + T.length ≤ 10000) (hbase : base ≤ w.heap.size) (h : ∀ v' w', OwK base w' v' (S ++ T) → w.grownBy w' v.ownBlock → (v'.ownBlock = v.ownBlock ∨ v'.ownBlock = some w.heap.size) → wpList Try.prog ops Q rest (a.put o.dst v') w') : wpList Try.prog ops Q (o :: rest) a w := by
  obtain ⟨i0, z, hi, hz0, hzs, hz1, hz2⟩ := dtext_info
  refine wpList_append_own_at _ hgd s x 47 ho base 74 i0 z 8 72 Try.underlying47 hi hz0 hz1 hz2 hzs (by omega) v S.length (dcs S) hs hown ⟨g, off, none⟩ T.length c (dcs T) hx (dcs_length T)
    (fun j u hu => ?_) (dcs_one' T) (by unfold maxLen; omega) (by omega) hbase (fun v' w' k1 k2 _ k3 => ?_)
  · rw [Addr.add_lit]
    exact hcell j u hu
  · refine h v' w' ?_ k2 k3
    unfold OwK
    rw [List.length_append, dcs_append]
    exact k1
/-- appending no slice at all to none -/
theorem run_append_none (w : World) (ty : TypeId) : (Builtin.append_ #[47, 47] ty #[.slice none 0 0, .slice none 0 0]).run Try.prog w = .ok (.slice none 0 0) w := by
  obtain ⟨i0, z, hi, hz0, hzs, hz1, hz2⟩ := dtext_info
  simp [Builtin.append_, run_underlying Try.underlying47, sizeOf, typeInfo, hi, Builtin.lenOf, Builtin.firstCells]
end Go.Proofs.Ythpbhimmfmablaa
