/- What memory holds, as a list of blocks of one's own: kept behind calls, stores, and new blocks. No program is run here. -/
import Derived.Test.YthpbhimmfmablaaHF
namespace Go.Proofs.Ythpbhimmfmablaa
open Go.RowKit
abbrev MRow := Nat × TypeId × Array Value
/-- these blocks, made since w, hold these cells; they are unlike; all that was there is as it was -/
structure Mem (w : World) (L : List MRow) (W : World) : Prop where
  rows : ∀ (i : Nat) (r : MRow), L[i]? = some r → Has W r.1 r.2.1 r.2.2
  apart : ∀ (i j : Nat) (r s : MRow), L[i]? = some r → L[j]? = some s → i ≠ j → r.1 ≠ s.1
  own : ∀ (i : Nat) (r : MRow), L[i]? = some r → w.heap.size ≤ r.1
  below : Below w.heap.size w W
section
variable {w : World} {L : List MRow} {W W' : World}
theorem Mem.init (w : World) : Mem w [] w := ⟨fun i r h => by simp at h, fun i j r s h => by simp at h, fun i r h => by simp at h, Below.refl _ _⟩
theorem Mem.row (M : Mem w L W) (i : Nat) {g : Nat} {t : TypeId} {cs : Array Value} (h : L[i]? = some (g, t, cs)) : Has W g t cs := M.rows i _ h
theorem Mem.step (M : Mem w L W) (hb : Below W.heap.size W W') : Mem w L W' := ⟨fun i r h => (M.rows i r h).below hb (M.rows i r h).lt, M.apart, M.own, M.below.trans (hb.mono M.below.size)⟩
theorem Mem.drew (M : Mem w L W) : Mem w L W.drew := ⟨M.rows, M.apart, M.own, M.below.drew⟩
theorem Mem.alloc (M : Mem w L W) (g : Nat) (hg : W.heap.size = g) (t : TypeId) (cs : Array Value) : Mem w (L ++ [(g, t, cs)]) (W.alloc (.cells cs t)) := by
  subst hg
  have hn : ∀ (i : Nat) (r : MRow), (L ++ [(W.heap.size, t, cs)])[i]? = some r → L[i]? = some r ∨ (i = L.length ∧ r = (W.heap.size, t, cs)) := fun i r h => by
    rcases Nat.lt_or_ge i L.length with h1 | h1
    · rw [List.getElem?_append_left h1] at h; exact Or.inl h
    · rw [List.getElem?_append_right h1] at h
      rcases Nat.eq_zero_or_pos (i - L.length) with h2 | h2
      · rw [h2] at h
        simp only [List.getElem?_cons_zero, Option.some.injEq] at h
        exact Or.inr ⟨by omega, h.symm⟩
      · rw [List.getElem?_eq_none (by simp; omega)] at h; cases h
  refine ⟨fun i r h => ?_, fun i j r s h h' hij => ?_, fun i r h => ?_, M.below.alloc M.below.size _⟩
  · rcases hn i r h with h | ⟨_, rfl⟩
    · exact (M.rows i r h).alloc _
    · exact Has.fresh W _ _
  · rcases hn i r h with h | ⟨hi, rfl⟩ <;> rcases hn j s h' with h' | ⟨hj, rfl⟩
    · exact M.apart i j r s h h' hij
    · have := (M.rows i r h).lt
      show r.1 ≠ W.heap.size
      omega
    · have := (M.rows j s h').lt
      show W.heap.size ≠ s.1
      omega
    · omega
  · rcases hn i r h with h | ⟨_, rfl⟩
    · exact M.own i r h
    · exact M.below.size
theorem Mem.set_aux (M : Mem w L W) (i : Nat) {g : Nat} {t : TypeId} {cs : Array Value} (h : L[i]? = some (g, t, cs)) (cs' : Array Value) (hsame : Has W' g t cs') (hother : ∀ g' t' ds, g' ≠ g → Has W g' t' ds → Has W' g' t' ds)
    (hb : Below w.heap.size w W') : Mem w (L.set i (g, t, cs')) W' := by
  have hl : i < L.length := (List.getElem?_eq_some_iff.1 h).1
  have hn : ∀ (j : Nat) (r : MRow), (L.set i (g, t, cs'))[j]? = some r → (j = i ∧ r = (g, t, cs')) ∨ (j ≠ i ∧ L[j]? = some r) := fun j r hj => by
    by_cases hij : i = j
    · subst hij
      rw [List.getElem?_set_self hl] at hj
      exact Or.inl ⟨rfl, by simpa using hj.symm⟩
    · rw [List.getElem?_set_ne hij] at hj
      exact Or.inr ⟨fun e => hij e.symm, hj⟩
  refine ⟨fun j r hj => ?_, fun j k r s hj hk hjk => ?_, fun j r hj => ?_, hb⟩
  · rcases hn j r hj with ⟨_, rfl⟩ | ⟨hne, hj⟩
    · exact hsame
    · exact hother _ _ _ (M.apart j i r _ hj h hne) (M.rows j r hj)
  · rcases hn j r hj with ⟨rfl, rfl⟩ | ⟨hne, hj2⟩ <;> rcases hn k s hk with ⟨rfl, rfl⟩ | ⟨hne', hk2⟩
    · exact absurd rfl hjk
    · exact M.apart j k (g, t, cs) s h hk2 hjk
    · exact M.apart j k r (g, t, cs) hj2 h hjk
    · exact M.apart j k r s hj2 hk2 hjk
  · rcases hn j r hj with ⟨_, rfl⟩ | ⟨_, hj⟩
    · exact M.own i (g, t, cs) h
    · exact M.own j r hj
theorem Mem.store (M : Mem w L W) (i : Nat) {g : Nat} {t : TypeId} {cs : Array Value} (h : L[i]? = some (g, t, cs)) (cs' : Array Value) : Mem w (L.set i (g, t, cs')) (W.setRow g cs') :=
  M.set_aux i h cs' ((M.row i h).setRow cs') (fun _ _ _ hne hh => hh.setRow_other hne _) (below_setRow M.below (M.own i _ h) _)
theorem Mem.setCell (M : Mem w L W) (i : Nat) {g : Nat} {t : TypeId} {cs : Array Value} (h : L[i]? = some (g, t, cs)) (j : Nat) (v : Value) : Mem w (L.set i (g, t, cs.setIfInBounds j v)) (W.setCell ⟨g, j, none⟩ v) :=
  M.set_aux i h _ ((M.row i h).set j v) (fun _ _ _ hne hh => hh.other (p := ⟨g, j, none⟩) hne _) (M.below.setCell (p := ⟨g, j, none⟩) (M.own i _ h) _)
/-- a block that a flow has made -/
theorem Mem.made (M : Mem w L W) (hb : Below W.heap.size W W') {G : Nat → Nat} {ss : List FlowV} {l : Array Bool} (h : Made G W.heap.size ss l W') (i : Nat) {t : TypeId} {z : Array Value} {n : Option Nat} (hs : ss[i]? = some (.inr (t, z, n))) (hl : l.getD i false = true) : Mem w (L ++ [(G i, t, z)]) W' := by
  obtain ⟨h1, h2, _⟩ := h i t z n hs hl
  have M' := M.step hb
  have hn : ∀ (k : Nat) (r : MRow), (L ++ [(G i, t, z)])[k]? = some r → L[k]? = some r ∨ (k = L.length ∧ r = (G i, t, z)) := fun k r h => by
    rcases Nat.lt_or_ge k L.length with h1 | h1
    · rw [List.getElem?_append_left h1] at h; exact Or.inl h
    · rw [List.getElem?_append_right h1] at h
      rcases Nat.eq_zero_or_pos (k - L.length) with h2 | h2
      · rw [h2] at h
        simp only [List.getElem?_cons_zero, Option.some.injEq] at h
        exact Or.inr ⟨by omega, h.symm⟩
      · rw [List.getElem?_eq_none (by simp; omega)] at h; cases h
  refine ⟨fun k r hk => ?_, fun k j r s hk hj hkj => ?_, fun k r hk => ?_, M'.below⟩
  · rcases hn k r hk with hk | ⟨_, rfl⟩
    · exact M'.rows k r hk
    · exact h2
  · rcases hn k r hk with hk | ⟨hi, rfl⟩ <;> rcases hn j s hj with hj | ⟨hj', rfl⟩
    · exact M.apart k j r s hk hj hkj
    · have := (M.rows k r hk).lt
      show r.1 ≠ G i
      omega
    · have := (M.rows j s hj).lt
      show G i ≠ s.1
      omega
    · omega
  · rcases hn k r hk with hk | ⟨_, rfl⟩
    · exact M.own k r hk
    · have := M.below.size
      show _ ≤ G i
      omega
/-- two blocks that a flow has made -/
theorem Mem.made2 (M : Mem w L W) (hb : Below W.heap.size W W') {G : Nat → Nat} {ss : List FlowV} {l : Array Bool} (h : Made G W.heap.size ss l W') (i j : Nat) (hij : i ≠ j) {t u : TypeId} {z y : Array Value} {n m : Option Nat} (hs : ss[i]? = some (.inr (t, z, n))) (hl : l.getD i false = true) (hs' : ss[j]? = some (.inr (u, y, m))) (hl' : l.getD j false = true) :
    Mem w (L ++ [(G i, t, z), (G j, u, y)]) W' := by
  have M1 := M.made hb h i hs hl
  have M2 := M.made hb h j hs' hl'
  have hne := (h i t z n hs hl).2.2 j u y m hs' hl' (fun e => hij e.symm)
  have hn : ∀ (k : Nat) (r : MRow), (L ++ [(G i, t, z), (G j, u, y)])[k]? = some r → (L ++ [(G i, t, z)])[k]? = some r ∨ (k = L.length + 1 ∧ r = (G j, u, y)) := fun k r hk => by
    rw [show L ++ [(G i, t, z), (G j, u, y)] = (L ++ [(G i, t, z)]) ++ [(G j, u, y)] from by simp] at hk
    rcases Nat.lt_or_ge k (L ++ [(G i, t, z)]).length with h1 | h1
    · rw [List.getElem?_append_left h1] at hk; exact Or.inl hk
    · rw [List.getElem?_append_right h1] at hk
      simp only [List.length_append, List.length_cons, List.length_nil] at hk h1
      rcases Nat.eq_zero_or_pos (k - (L.length + (0 + 1))) with h2 | h2
      · rw [h2] at hk
        simp only [List.getElem?_cons_zero, Option.some.injEq] at hk
        exact Or.inr ⟨by omega, hk.symm⟩
      · rw [List.getElem?_eq_none (by simp; omega)] at hk; cases hk
  have hlast : (L ++ [(G j, u, y)])[L.length]? = some (G j, u, y) := by simp
  have hget : ∀ (k : Nat) (r : MRow), (L ++ [(G i, t, z)])[k]? = some r → (k < L.length ∧ L[k]? = some r) ∨ r = (G i, t, z) := fun k r hk => by
    rcases Nat.lt_or_ge k L.length with h1 | h1
    · rw [List.getElem?_append_left h1] at hk; exact Or.inl ⟨h1, hk⟩
    · rw [List.getElem?_append_right h1] at hk
      rcases Nat.eq_zero_or_pos (k - L.length) with h2 | h2
      · rw [h2] at hk
        simp only [List.getElem?_cons_zero, Option.some.injEq] at hk
        exact Or.inr hk.symm
      · rw [List.getElem?_eq_none (by simp; omega)] at hk; cases hk
  have hdif : ∀ (k : Nat) (r : MRow), (L ++ [(G i, t, z)])[k]? = some r → r.1 ≠ G j := fun k r hk => by
    rcases hget k r hk with ⟨hlt, hk⟩ | rfl
    · have := (M.rows k r hk).lt
      have := (h j u y m hs' hl').1
      omega
    · exact fun e => hne e.symm
  refine ⟨fun k r hk => ?_, fun k m r s hk hm hkm => ?_, fun k r hk => ?_, M1.below⟩
  · rcases hn k r hk with hk | ⟨_, rfl⟩
    · exact M1.rows k r hk
    · exact M2.rows _ _ hlast
  · rcases hn k r hk with hk | ⟨hk', rfl⟩ <;> rcases hn m s hm with hm | ⟨hm', rfl⟩
    · exact M1.apart k m r s hk hm hkm
    · exact hdif k r hk
    · exact fun e => hdif m s hm e.symm
    · omega
  · rcases hn k r hk with hk | ⟨_, rfl⟩
    · exact M1.own k r hk
    · exact M2.own _ _ hlast
end
/-- a part of a row of words is loaded -/
theorem rangeU {w : World} {g : Nat} {t : TypeId} {cs : Array Value} (h : Has w g t cs) (o : Nat) (vs : List Value) (hx : (cs.toList.drop o).take vs.length = vs) : w.rangeAt g o vs := by
  intro j v hv
  have hj : j < vs.length := (List.getElem?_eq_some_iff.1 hv).1
  have h2 : ((cs.toList.drop o).take vs.length)[j]? = cs[o + j]? := by rw [List.getElem?_take_of_lt hj, List.getElem?_drop, Array.getElem?_toList]
  rw [hx] at h2
  rw [h.cell, ← h2, hv]
theorem exec_load_part {P : Program} {o : Oper} {ev : Operand → Value} {w : World} (ty : TypeId) (x : Operand) (g off : Nat) {t : TypeId} {cs : Array Value} (vs : List Value) {d : TypeDesc} (hg : Has w g t cs) (hx : (cs.toList.drop off).take vs.length = vs)
    (hu : P.underlying ty = some d) (hd : d.isRow = true) (hi : (P.info? ty).map (·.size) = some vs.length) (ho : o.op = .load ty x) (he : ev x = .pointer (some ⟨g, off, none⟩)) :
    (execOp ev o).run P w = .ok (.value (.agg vs.toArray)) w := by
  unfold execOp
  simp only [ho, he, Sem.run_bind, Sem.run_pure, run_loadAt_mid w g off ty vs d (rangeU hg off vs hx) hu hd hi, Result.andThen_ok]
end Go.Proofs.Ythpbhimmfmablaa
