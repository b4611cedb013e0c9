/- Bytes that lie in a block with other cells behind them; calls that turn one block alone. No program is run here. -/
import Derived.Test.YtkjkmnaiddjjnaaHR
import Derived.WalkSmall
namespace Go.Proofs.Ytkjkmnaiddjjnaa
open Go.RowKit
/-- all that was there is as it was, but one block -/
structure But (g : Nat) (w w' : World) : Prop where
  size : w.heap.size ≤ w'.heap.size
  block : ∀ k, k < w.heap.size → k ≠ g → w'.heap[k]? = w.heap[k]?
  below : ∀ B w0, B ≤ g → B ≤ w.heap.size → Below B w0 w → Below B w0 w'
theorem But.of {g : Nat} {w w' : World} (h : Below w.heap.size w w') : But g w w' :=
  ⟨h.size, fun k hk _ => h.block k hk, fun _ _ _ hs hb => hb.trans (h.mono hs)⟩
theorem But.has {g : Nat} {w w' : World} (h : But g w w') {k : Nat} {t : TypeId} {cs : Array Value} (hk : Has w k t cs) (hne : k ≠ g) : Has w' k t cs := (h.block k hk.lt hne).trans hk
theorem But.trans {g : Nat} {a b c : World} (h : But g a b) (k : But g b c) : But g a c :=
  ⟨Nat.le_trans h.size k.size, fun i hi hn => (k.block i (Nat.lt_of_lt_of_le hi h.size) hn).trans (h.block i hi hn), fun B w0 h1 h2 h3 => k.below B w0 h1 (Nat.le_trans h2 h.size) (h.below B w0 h1 h2 h3)⟩
theorem But.setCell {g : Nat} {a b : World} (h : But g a b) (i : Nat) (u : Value) : But g a (b.setCell ⟨g, i, none⟩ u) :=
  ⟨by simpa using h.size, fun k hk hn => (heap_setCell_other b ⟨g, i, none⟩ k u hn).trans (h.block k hk hn), fun B w0 h1 h2 h3 => (h.below B w0 h1 h2 h3).setCell h1 _⟩
theorem But.drewN {g : Nat} {a b : World} (h : But g a b) (n : Nat) : But g a (b.drewN n) :=
  ⟨h.size, h.block, fun B w0 h1 h2 h3 => below_drewN (h.below B w0 h1 h2 h3) n⟩
theorem But.drew {g : Nat} {a b : World} (h : But g a b) : But g a b.drew := ⟨h.size, h.block, fun B w0 h1 h2 h3 => (h.below B w0 h1 h2 h3).drew⟩
/-- bytes lie at the beginning of a block, and may be written -/
def RowB (w : World) (g : Nat) (l : List UInt8) : Prop := g < w.heap.size ∧ ∀ i, i < l.length → w.cell? ⟨g, i, none⟩ = some (B8 (l.getD i 0)) ∧ w.frozen? ⟨g, i, none⟩ = false
section
variable {w w' : World} {g : Nat} {l : List UInt8}
theorem RowB.drew (h : RowB w g l) : RowB w.drew g l := h
theorem RowB.drewN (h : RowB w g l) (n : Nat) : RowB (w.drewN n) g l := h
theorem RowB.of_block (h : RowB w g l) (hs : g < w'.heap.size) (hb : w'.heap[g]? = w.heap[g]?) : RowB w' g l :=
  ⟨hs, fun i hi => ⟨(World.cell?_of_block (w := w) (a := ⟨g, i, none⟩) hb).trans (h.2 i hi).1, (World.frozen?_of_block (w := w) (a := ⟨g, i, none⟩) hb).trans (h.2 i hi).2⟩⟩
theorem RowB.below {B : Nat} (h : RowB w g l) (hb : Below B w w') (hg : g < B) : RowB w' g l := h.of_block (Nat.lt_of_lt_of_le h.1 hb.size) (hb.block g hg)
theorem RowB.alloc (h : RowB w g l) (o : Obj) : RowB (w.alloc o) g l := h.of_block (by show g < (w.heap.push o).size; have := h.1; simp; omega) (Below.heap_alloc w o g h.1)
theorem RowB.but {g' : Nat} (h : RowB w g l) (hb : But g' w w') (hn : g ≠ g') : RowB w' g l := h.of_block (Nat.lt_of_lt_of_le h.1 hb.size) (hb.block g h.1 hn)
theorem RowB.set (h : RowB w g l) (i : Nat) (hi : i < l.length) (x : UInt8) : RowB (w.setCell ⟨g, i, none⟩ (B8 x)) g (l.set i x) := by
  refine ⟨by simpa using h.1, fun j hj => ⟨?_, ?_⟩⟩
  · rw [List.length_set] at hj
    by_cases e : i = j
    · subst e
      rw [List.getD_eq_getElem?_getD, List.getElem?_set_self hi]
      exact World.cell?_setCell_same _ _ _ (h.2 i hi).1
    · rw [List.getD_eq_getElem?_getD, List.getElem?_set_ne e, ← List.getD_eq_getElem?_getD, World.cell?_setCell_other _ _ _ _ (by intro h2; exact e (congrArg Addr.off h2))]
      exact (h.2 j hj).1
  · rw [World.frozen?_setCell]
    rw [List.length_set] at hj
    exact (h.2 j hj).2
theorem RowB.setOther (h : RowB w g l) {p : Addr} (hp : g ≠ p.block) (u : Value) : RowB (w.setCell p u) g l := h.of_block (by simpa using h.1) (heap_setCell_other w p g u hp)
theorem RowB.range (h : RowB w g l) : w.rangeAt g 0 (l.map B8) := by
  intro j v hv
  have hj : j < l.length := by have := (List.getElem?_eq_some_iff.1 hv).1; simpa using this
  rw [Nat.zero_add, (h.2 j hj).1]
  rw [List.getElem?_map, List.getElem?_eq_getElem hj] at hv
  rw [List.getD_eq_getElem?_getD, List.getElem?_eq_getElem hj]
  exact hv
end
/-- what '[]byte(s)' makes -/
theorem rowB_bytes (w : World) (s : ByteArray) (cap : Nat) (e : TypeId) (n : Nat) (hn : s.size ≤ n) : RowB (w.alloc (.cells (bytesRow s cap) e (n, n + 1))) w.heap.size s.data.toList := by
  have hb : (w.alloc (.cells (bytesRow s cap) e (n, n + 1))).heap[w.heap.size]? = some (.cells (bytesRow s cap) e (n, n + 1)) := heap_alloc_new w _
  refine ⟨by show _ < (w.heap.push _).size; simp, fun i hi => ⟨?_, ?_⟩⟩
  · rw [cell_of_row _ w.heap.size i _ e _ hb]
    have hi2 : i < s.data.size := by simpa using hi
    unfold bytesRow
    rw [Array.getElem?_append_left (by simpa using hi2), Array.getElem?_map, Array.getElem?_eq_getElem hi2, List.getD_eq_getElem?_getD, List.getElem?_eq_getElem hi]
    simp
  · have hi2 : i < s.size := by have : i < s.data.toList.length := hi; simpa using this
    unfold World.frozen?
    rw [hb]
    simp
    omega
end Go.Proofs.Ytkjkmnaiddjjnaa
