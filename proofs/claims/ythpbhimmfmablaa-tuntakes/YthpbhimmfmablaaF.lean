/- Bytes in blocks of memory, and what a text is filled up with. No program is run here. -/
import Derived.Test.YthpbhimmfmablaaC
import Derived.Laws.IdiomStrings
import Derived.Laws.MakeOwn
namespace Go.Proofs.Ythpbhimmfmablaa
open Go.RowKit
/-- a byte as the program's value -/
abbrev B8 (x : UInt8) : Value := .int .u8 (x.toNat : Int)
/-- bytes as cells -/
def bs (l : List UInt8) : Array Value := (l.map B8).toArray
theorem bs_size (l : List UInt8) : (bs l).size = l.length := by simp [bs]
theorem bs_get (l : List UInt8) (i : Nat) (h : i < l.length) : (bs l)[i]? = some (B8 (l.getD i 0)) := by simp [bs, h]
theorem bs_set (l : List UInt8) (i : Nat) (x : UInt8) : (bs l).setIfInBounds i (B8 x) = bs (l.set i x) := by simp [bs, List.map_set]
theorem bs_one (l : List UInt8) : (bs l).all (·.oneCell') = true := by simp [bs, Value.oneCell']
theorem Has.byte {w : World} {g : Nat} {t : TypeId} {l : List UInt8} (h : Has w g t (bs l)) (i : Nat) (hi : i < l.length) : w.cell? ⟨g, i, none⟩ = some (B8 (l.getD i 0)) := by
  rw [h.cell, bs_get l i hi]
theorem Has.setB {w : World} {g : Nat} {t : TypeId} {l : List UInt8} (h : Has w g t (bs l)) (i : Nat) (x : UInt8) : Has (w.setCell ⟨g, i, none⟩ (B8 x)) g t (bs (l.set i x)) := by
  rw [← bs_set]; exact h.set i _
theorem made_bs (n : Nat) : madeCells #[.int .u8 0] n = bs (List.replicate n 0) := by
  apply Array.toList_inj.1
  rw [toList_madeCells_one]
  simp [bs]

/-- k bytes of a number, the highest first -/
def beTail (c : Nat) : Nat → List UInt8
  | 0 => []
  | k + 1 => UInt8.ofNat (c / 256 ^ k) :: beTail c k
theorem beTail_length (c k : Nat) : (beTail c k).length = k := by
  induction k with
  | zero => rfl
  | succ k ih => simp [beTail, ih]
/-- m bytes: 80, zeros, the lowest k bytes of a number -/
def fillTo (c m k : Nat) : List UInt8 := (128 :: List.replicate (m - 1 - k) 0) ++ beTail c k
theorem fillTo_length (c m k : Nat) (h : k < m) : (fillTo c m k).length = m := by
  simp [fillTo, beTail_length]; omega
theorem fillTo_zero (c m : Nat) (h : 0 < m) : fillTo c m 0 = (List.replicate m 0).set 0 128 := by
  obtain ⟨j, rfl⟩ : ∃ j, m = j + 1 := ⟨m - 1, by omega⟩
  simp [fillTo, beTail, List.replicate_succ]
theorem fillTo_set (c m k : Nat) (h : k + 1 < m) : (fillTo c m k).set (m - 1 - k) (UInt8.ofNat (c / 256 ^ k)) = fillTo c m (k + 1) := by
  obtain ⟨j, hj⟩ : ∃ j, m - 1 - k = j + 1 := ⟨m - 2 - k, by omega⟩
  have hj2 : m - 1 - (k + 1) = j := by omega
  unfold fillTo
  rw [hj, hj2]
  simp [List.replicate_succ', beTail]
/-- how many bytes are filled in -/
def fillLen (n : Nat) : Nat := 9 + (64 - (n + 9) % 64) % 64
/-- what stands behind a text of n bytes -/
def fillL (n : Nat) : List UInt8 := fillTo (8 * n) (fillLen n) 8
theorem fillLen_ge (n : Nat) : 9 ≤ fillLen n := by unfold fillLen; omega
theorem fillLen_lt (n : Nat) : fillLen n < 73 := by unfold fillLen; omega
theorem fillL_length (n : Nat) : (fillL n).length = fillLen n := by
  unfold fillL; exact fillTo_length _ _ _ (by have := fillLen_ge n; omega)
theorem fill_mod (n : Nat) : (n + fillLen n) % 64 = 0 := by unfold fillLen; omega
theorem fillLen_int (n : Nat) : 1 + -(((n : Int) + 1 + 8) % 64) % 64 + 8 = ((fillLen n : Nat) : Int) := by unfold fillLen; omega
theorem byte_shift (c k : Nat) : ((c : Int) / 2 ^ (8 * k)) % 256 = ((UInt8.ofNat (c / 256 ^ k)).toNat : Int) := by
  rw [UInt8.toNat_ofNat', show (256 : Nat) = 2 ^ 8 from rfl, ← Nat.pow_mul]
  simp
end Go.Proofs.Ythpbhimmfmablaa
