/- Blocks of memory that hold words: what a walk needs to know of them. No program is run here. -/
import Derived.Test.YthpbhimmfmablaaA2
import Derived.Below
import Derived.Laws.OwnMore
import Derived.Laws.Rows
import Derived.Deep.Draws
namespace Go.Proofs.Ythpbhimmfmablaa
open Go.RowKit

/-- block g holds just these cells, of this element type, and none is frozen -/
def Has (w : World) (g : Nat) (t : TypeId) (cs : Array Value) : Prop := w.heap[g]? = some (.cells cs t (0, 0))
section
variable {w w' : World} {g : Nat} {t : TypeId} {cs : Array Value}
theorem Has.lt (h : Has w g t cs) : g < w.heap.size := (Array.getElem?_eq_some_iff.1 h).1
theorem Has.cell (h : Has w g t cs) (i : Nat) : w.cell? ⟨g, i, none⟩ = cs[i]? := cell_of_row w g i cs t (0, 0) h
theorem Has.frozen (h : Has w g t cs) (i : Nat) : w.frozen? ⟨g, i, none⟩ = false := frozen_of_row w g i cs t h
theorem Has.fresh (w : World) (t : TypeId) (cs : Array Value) : Has (w.alloc (.cells cs t)) w.heap.size t cs := heap_alloc_new w _
theorem Has.alloc (h : Has w g t cs) (o : Obj) : Has (w.alloc o) g t cs := (Below.heap_alloc w o g h.lt).trans h
theorem Has.set (h : Has w g t cs) (i : Nat) (u : Value) : Has (w.setCell ⟨g, i, none⟩ u) g t (cs.setIfInBounds i u) := heap_setCell_same w g i cs t u h
theorem Has.other (h : Has w g t cs) {p : Addr} (hp : g ≠ p.block) (u : Value) : Has (w.setCell p u) g t cs := (heap_setCell_other w p g u hp).trans h
theorem Has.drew (h : Has w g t cs) : Has w.drew g t cs := h
theorem Has.drewN (h : Has w g t cs) (n : Nat) : Has (w.drewN n) g t cs := h
theorem Has.below {B : Nat} (h : Has w g t cs) (hb : Below B w w') (hg : g < B) : Has w' g t cs := (hb.block g hg).trans h
theorem Has.setRow (h : Has w g t cs) (cs' : Array Value) : Has (w.setRow g cs') g t cs' := setRow_heap w g cs cs' t _ h
theorem Has.setRow_other (h : Has w g t cs) {g' : Nat} (hp : g ≠ g') (cs' : Array Value) : Has (w.setRow g' cs') g t cs := (Go.setRow_other w g' g cs' hp).trans h
end
theorem below_setRow {B : Nat} {a w : World} (h : Below B a w) {g : Nat} (hp : B ≤ g) (cs : Array Value) : Below B a (w.setRow g cs) :=
  h.trans ⟨rfl, rfl, rfl, by simp, fun k hk => Go.setRow_other w g k cs (by omega)⟩

/-- words as cells -/
def ws (l : List UInt32) : Array Value := (l.map W32).toArray
theorem ws_size (l : List UInt32) : (ws l).size = l.length := by simp [ws]
theorem ws_get (l : List UInt32) (i : Nat) (h : i < l.length) : (ws l)[i]? = some (W32 (l.getD i 0)) := by
  simp [ws, h]
theorem ws_set (l : List UInt32) (i : Nat) (x : UInt32) : (ws l).setIfInBounds i (W32 x) = ws (l.set i x) := by
  simp [ws, List.map_set]
theorem ws_one (l : List UInt32) : (ws l).all (·.oneCell') = true := by
  simp [ws, Value.oneCell']
theorem Has.word {w : World} {g : Nat} {t : TypeId} {l : List UInt32} (h : Has w g t (ws l)) (i : Nat) (hi : i < l.length) : w.cell? ⟨g, i, none⟩ = some (W32 (l.getD i 0)) := by
  rw [h.cell, ws_get l i hi]
theorem Has.setW {w : World} {g : Nat} {t : TypeId} {l : List UInt32} (h : Has w g t (ws l)) (i : Nat) (x : UInt32) : Has (w.setCell ⟨g, i, none⟩ (W32 x)) g t (ws (l.set i x)) := by
  rw [← ws_set]; exact h.set i _

theorem wl_length (s : List UInt8) (k : Nat) : (wl s k).length = k := by
  induction k with
  | zero => rfl
  | succ k ih => simp [wl, wstep, ih]
/-- the words laid so far, zeros behind them -/
def wpad (s : List UInt8) (k : Nat) : List UInt32 := wl s k ++ List.replicate (64 - k) 0
theorem wpad_length (s : List UInt8) (k : Nat) (h : k ≤ 64) : (wpad s k).length = 64 := by simp [wpad, wl_length]; omega
theorem wpad_get (s : List UInt8) (k i : Nat) (h : i < k) : (wpad s k).getD i 0 = (wl s k).getD i 0 := by
  simp [wpad, List.getD_eq_getElem?_getD, List.getElem?_append, wl_length, h]
theorem wpad_set (s : List UInt8) (k : Nat) (h : k < 64) : (wpad s k).set k (if k < 16 then sw s k else nextW (wl s k) k) = wpad s (k + 1) := by
  unfold wpad
  rw [List.set_append_right _ _ (by rw [wl_length]; exact Nat.le_refl _), wl_length, Nat.sub_self, show 64 - k = (64 - (k + 1)) + 1 from by omega, List.replicate_succ, List.set_cons_zero]
  simp [wl, wstep]
theorem wpad_done (s : List UInt8) : wpad s 64 = wl s 64 := by simp [wpad]
theorem wpad_zero (s : List UInt8) : wpad s 0 = List.replicate 64 0 := by simp [wpad, wl]
theorem bAt_extract (s : ByteArray) (a b i : Nat) (h : a + i < b) : bAt (s.extract a b) i = bAt s (a + i) := by
  unfold bAt
  rw [ByteArray.data_extract, Array.toList_extract, List.getD_eq_getElem?_getD, List.getD_eq_getElem?_getD, List.extract_eq_take_drop, List.getElem?_take_of_lt (by omega), List.getElem?_drop]
theorem word_at (s : ByteArray) (k : Nat) : wordOf (bAt (s.extract (4 * k) (4 * k + 4)) 0) (bAt (s.extract (4 * k) (4 * k + 4)) 1) (bAt (s.extract (4 * k) (4 * k + 4)) 2) (bAt (s.extract (4 * k) (4 * k + 4)) 3) = sw s.data.toList k := by
  rw [bAt_extract _ _ _ _ (by omega), bAt_extract _ _ _ _ (by omega), bAt_extract _ _ _ _ (by omega), bAt_extract _ _ _ _ (by omega)]
  rfl
/-- eight words as cells -/
def W8.l (v : W8) : List UInt32 := [v.a, v.b, v.c, v.d, v.e, v.f, v.g, v.h]
def c8 (v : W8) : Array Value := ws v.l
/-- the zero words that a new array holds -/
def z8 : Array Value := ws (List.replicate 8 0)
theorem Has.c8_0 {w : World} {g : Nat} {t : TypeId} {v : W8} (h : Has w g t (c8 v)) : w.cell? ⟨g, 0, none⟩ = some (W32 v.a) := h.word 0 (by simp [W8.l])
theorem Has.c8_1 {w : World} {g : Nat} {t : TypeId} {v : W8} (h : Has w g t (c8 v)) : w.cell? ⟨g, 1, none⟩ = some (W32 v.b) := h.word 1 (by simp [W8.l])
theorem Has.c8_2 {w : World} {g : Nat} {t : TypeId} {v : W8} (h : Has w g t (c8 v)) : w.cell? ⟨g, 2, none⟩ = some (W32 v.c) := h.word 2 (by simp [W8.l])
theorem Has.c8_3 {w : World} {g : Nat} {t : TypeId} {v : W8} (h : Has w g t (c8 v)) : w.cell? ⟨g, 3, none⟩ = some (W32 v.d) := h.word 3 (by simp [W8.l])
theorem Has.c8_4 {w : World} {g : Nat} {t : TypeId} {v : W8} (h : Has w g t (c8 v)) : w.cell? ⟨g, 4, none⟩ = some (W32 v.e) := h.word 4 (by simp [W8.l])
theorem Has.c8_5 {w : World} {g : Nat} {t : TypeId} {v : W8} (h : Has w g t (c8 v)) : w.cell? ⟨g, 5, none⟩ = some (W32 v.f) := h.word 5 (by simp [W8.l])
theorem Has.c8_6 {w : World} {g : Nat} {t : TypeId} {v : W8} (h : Has w g t (c8 v)) : w.cell? ⟨g, 6, none⟩ = some (W32 v.g) := h.word 6 (by simp [W8.l])
theorem Has.c8_7 {w : World} {g : Nat} {t : TypeId} {v : W8} (h : Has w g t (c8 v)) : w.cell? ⟨g, 7, none⟩ = some (W32 v.h) := h.word 7 (by simp [W8.l])
theorem Has.c8_all {w : World} {g : Nat} {t : TypeId} {xa xb xc xd xe xf xg xh : UInt32} (h : Has w g t (c8 ⟨xa, xb, xc, xd, xe, xf, xg, xh⟩)) :
    w.cell? ⟨g, 0, none⟩ = some (W32 xa) ∧ w.cell? ⟨g, 1, none⟩ = some (W32 xb) ∧ w.cell? ⟨g, 2, none⟩ = some (W32 xc) ∧ w.cell? ⟨g, 3, none⟩ = some (W32 xd) ∧ w.cell? ⟨g, 4, none⟩ = some (W32 xe) ∧ w.cell? ⟨g, 5, none⟩ = some (W32 xf) ∧ w.cell? ⟨g, 6, none⟩ = some (W32 xg) ∧ w.cell? ⟨g, 7, none⟩ = some (W32 xh) :=
  ⟨h.c8_0, h.c8_1, h.c8_2, h.c8_3, h.c8_4, h.c8_5, h.c8_6, h.c8_7⟩
/-- the table of constants lies where the program keeps it -/
def HasK (w : World) : Prop := ∀ i, i < 64 → w.cell? ⟨0, i, none⟩ = some (W32 (kk.getD i 0))
theorem HasK.lt {w : World} (h : HasK w) : 0 < w.heap.size := block_lt_of_cell (h 0 (by omega))
theorem HasK.below {w w' : World} (h : HasK w) {B : Nat} (hB : 0 < B) (hb : Below B w w') : HasK w' := fun i hi => (hb.cell (p := ⟨0, i, none⟩) hB).trans (h i hi)
/-- the first i words added, the others as they were -/
def addTo (v x : W8) (i : Nat) : List UInt32 := (addW v x).l.take i ++ v.l.drop i
theorem addTo_length (v x : W8) (i : Nat) : (addTo v x i).length = 8 := by
  unfold addTo
  have h1 : (addW v x).l.length = 8 := rfl
  have h2 : v.l.length = 8 := rfl
  rw [List.length_append, List.length_take, List.length_drop, h1, h2]; omega
theorem addTo_zero (v x : W8) : addTo v x 0 = v.l := rfl
theorem addTo_eight (v x : W8) : addTo v x 8 = (addW v x).l := rfl
theorem addTo_get (v x : W8) (i : Nat) (h : i < 8) : (addTo v x i).getD i 0 = v.l.getD i 0 := by
  have : i = 0 ∨ i = 1 ∨ i = 2 ∨ i = 3 ∨ i = 4 ∨ i = 5 ∨ i = 6 ∨ i = 7 := by omega
  rcases this with rfl | rfl | rfl | rfl | rfl | rfl | rfl | rfl <;> rfl
theorem addTo_set (v x : W8) (i : Nat) (h : i < 8) : (addTo v x i).set i (v.l.getD i 0 + x.l.getD i 0) = addTo v x (i + 1) := by
  have : i = 0 ∨ i = 1 ∨ i = 2 ∨ i = 3 ∨ i = 4 ∨ i = 5 ∨ i = 6 ∨ i = 7 := by omega
  rcases this with rfl | rfl | rfl | rfl | rfl | rfl | rfl | rfl <;> rfl
end Go.Proofs.Ythpbhimmfmablaa
