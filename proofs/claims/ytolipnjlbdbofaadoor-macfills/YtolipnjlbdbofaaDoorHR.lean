/- Whole rows in regions that draw their order: what a walk needs to know of them. No program is run here. -/
import Derived.Test.YtolipnjlbdbofaaDoorF
import Derived.Laws.CopyRow
import Derived.Deep.RegionHeld3
namespace Go.Proofs.YtolipnjlbdbofaaDoor
open Go.RowKit
/-- a row stored cell by cell is a row stored -/
theorem setCells_row {w : World} {g : Nat} {t : TypeId} {cs : Array Value} (P : Program) (h : Has w g t cs) (vs : List Value) (hl : vs.length = cs.size) (h1 : ∀ v ∈ vs, v.oneCell' = true) :
    w.setCells g 0 vs = w.setRow g vs.toArray := by
  have a := run_storeCells_at P g 0 t vs 0 cs w h (by omega) h1
  have b := run_storeCells_cells (P := P) g 0 vs 0 w (fun j hj => by rw [Nat.add_zero, Nat.zero_add, h.cell, Array.getElem?_eq_getElem (by omega)]; rfl) (fun j _ => h.frozen _) h1
  rw [a] at b
  have e : w.setRow g (cs.toList.take (0 + 0) ++ vs ++ cs.toList.drop (0 + 0 + vs.length)).toArray = w.setCells g (0 + 0) vs := by injection b
  rw [← Nat.add_zero 0, ← e]
  congr 2
  rw [List.drop_of_length_le (by simp; omega)]
  simp
theorem bl_one (l : List UInt8) : ∀ v ∈ l.map B8, v.oneCell' = true := by
  intro v hv
  simp only [List.mem_map] at hv
  obtain ⟨b, _, rfl⟩ := hv
  rfl
theorem setCells_bytes {w : World} {g : Nat} {t : TypeId} {cs : Array Value} (P : Program) (h : Has w g t cs) (l : List UInt8) (hl : l.length = cs.size) :
    w.setCells g 0 (l.map B8) = w.setRow g (bs l) := setCells_row P h _ (by rw [List.length_map]; exact hl) (bl_one l)
theorem Has.range {w : World} {g : Nat} {t : TypeId} {l : List UInt8} (h : Has w g t (bs l)) : w.rangeAt g 0 (l.map B8) := by
  intro j v hv
  rw [h.cell, Nat.zero_add]
  simpa [bs] using hv
theorem Has.there {w : World} {g : Nat} {t : TypeId} {cs : Array Value} (h : Has w g t cs) (n : Nat) (hn : n ≤ cs.size) : w.there g 0 n := by
  intro j hj
  rw [h.cell, h.frozen, Nat.zero_add, Array.getElem?_eq_getElem (by omega)]
  exact ⟨rfl, rfl⟩
end Go.Proofs.YtolipnjlbdbofaaDoor
