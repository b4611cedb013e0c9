/- Frames as values: their cells, in memory; which are right; their bytes. No program is run here. -/
import Derived.Test.YthpbhimmfmablaaHM
import Derived.Test.YthpbhimmfmablaaOC
import Derived.Test.YthpbhimmfmablaaNA
namespace Go.Proofs.Ythpbhimmfmablaa
open Go.RowKit
/-- a parsed frame -/
structure E8 where
  d : List UInt8
  s : List UInt8
  k : Int
  b : ByteArray
  v : Int
  p : Int
/-- its cells -/
def E8.c (x : E8) : Array Value := ((x.d ++ x.s).map B8 ++ [Value.int .i64 x.k, Value.string x.b, Value.int .i64 x.v, Value.int .i64 x.p]).toArray
/-- its addresses have six bytes each -/
structure E8.Six (x : E8) : Prop where
  d : x.d.length = 6
  s : x.s.length = 6
theorem E8.size {x : E8} (h : x.Six) : x.c.size = 16 := by
  unfold E8.c
  simp [h.d, h.s]
theorem E8.one (x : E8) : x.c.all (·.oneCell') = true := by
  unfold E8.c
  simp [Value.oneCell']
theorem E8.get_k {x : E8} (h : x.Six) : x.c[12]? = some (.int .i64 x.k) := by
  unfold E8.c
  have : ((x.d ++ x.s).map B8).length = 12 := by simp [h.d, h.s]
  rw [List.getElem?_toArray, List.getElem?_append_right (by omega), this]; rfl
theorem E8.get_b {x : E8} (h : x.Six) : x.c[13]? = some (.string x.b) := by
  unfold E8.c
  have : ((x.d ++ x.s).map B8).length = 12 := by simp [h.d, h.s]
  rw [List.getElem?_toArray, List.getElem?_append_right (by omega), this]; rfl
theorem E8.get_v {x : E8} (h : x.Six) : x.c[14]? = some (.int .i64 x.v) := by
  unfold E8.c
  have : ((x.d ++ x.s).map B8).length = 12 := by simp [h.d, h.s]
  rw [List.getElem?_toArray, List.getElem?_append_right (by omega), this]; rfl
theorem E8.get_p {x : E8} (h : x.Six) : x.c[15]? = some (.int .i64 x.p) := by
  unfold E8.c
  have : ((x.d ++ x.s).map B8).length = 12 := by simp [h.d, h.s]
  rw [List.getElem?_toArray, List.getElem?_append_right (by omega), this]; rfl
section
variable {w : World} {g : Nat} {t : TypeId} {x : E8}
theorem Has.fk (h : Has w g t x.c) (hx : x.Six) : w.cell? ⟨g, 12, none⟩ = some (.int .i64 x.k) := by rw [h.cell, E8.get_k hx]
theorem Has.fb (h : Has w g t x.c) (hx : x.Six) : w.cell? ⟨g, 13, none⟩ = some (.string x.b) := by rw [h.cell, E8.get_b hx]
theorem Has.fv (h : Has w g t x.c) (hx : x.Six) : w.cell? ⟨g, 14, none⟩ = some (.int .i64 x.v) := by rw [h.cell, E8.get_v hx]
theorem Has.fp (h : Has w g t x.c) (hx : x.Six) : w.cell? ⟨g, 15, none⟩ = some (.int .i64 x.p) := by rw [h.cell, E8.get_p hx]
theorem Has.rd (h : Has w g t x.c) : w.rangeAt g 0 (x.d.map B8) := by
  intro j v hj
  have hj2 : j < x.d.length := by have := (List.getElem?_eq_some_iff.1 hj).1; simpa using this
  rw [Nat.zero_add, h.cell]
  unfold E8.c
  rw [List.getElem?_toArray, List.getElem?_append_left (by simp; omega), List.map_append, List.getElem?_append_left (by simp; omega), hj]
theorem Has.rs (h : Has w g t x.c) (hx : x.Six) : w.rangeAt g 6 (x.s.map B8) := by
  intro j v hj
  have hj2 : j < x.s.length := by have := (List.getElem?_eq_some_iff.1 hj).1; simpa using this
  rw [h.cell]
  unfold E8.c
  have hd := hx.d
  rw [List.getElem?_toArray, List.getElem?_append_left (by simp; omega), List.map_append, List.getElem?_append_right (by simp; omega)]
  simp only [List.length_map, hd, Nat.add_sub_cancel_left]
  exact hj
end
/-- may a frame have this type? -/
def rightT (k : Int) : Bool := k == 0 || (decide (1536 ≤ k) && decide (k ≤ 65535) && k != 33024)
/-- is a frame right? -/
def E8.right (x : E8) : Bool := rightT x.k && decide (x.b.size ≤ 1500) && (if x.v = -1 then x.p == 0 else decide (0 ≤ x.v) && decide (x.v ≤ 4094) && decide (0 ≤ x.p) && decide (x.p ≤ 7))
/-- an error that is thrown -/
abbrev thrown (n : Int) : Ending := .panicked [{ v := .iface 26 (.int .i64 n), recovered := false }]
end Go.Proofs.Ythpbhimmfmablaa
