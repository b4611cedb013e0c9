/- Sums block by block, as plain functions. No program is run here. -/
import Derived.Test.YtolipnjlbdbofaaDoorF
namespace Go.Proofs.YtolipnjlbdbofaaDoor
/-- eight words behind k blocks of a text -/
def blksN (v : W8) (l : List UInt8) : Nat → W8
  | 0 => v
  | k + 1 => blk (blksN v l k) (l.drop (64 * k))
theorem wl_congr (s t : List UInt8) (h : ∀ i, i < 64 → s.getD i 0 = t.getD i 0) (k : Nat) : wl s k = wl t k := by
  induction k with
  | zero => rfl
  | succ k ih =>
    show wstep s (wl s k) k = wstep t (wl t k) k
    rw [ih]
    unfold wstep
    by_cases hk : k < 16
    · have e : sw s k = sw t k := by
        unfold sw
        rw [h _ (by omega), h _ (by omega), h _ (by omega), h _ (by omega)]
      rw [if_pos hk, if_pos hk, e]
    · rw [if_neg hk, if_neg hk]
theorem blk_congr (v : W8) (s t : List UInt8) (h : ∀ i, i < 64 → s.getD i 0 = t.getD i 0) : blk v s = blk v t := by
  unfold blk; rw [wl_congr s t h]
theorem blksN_congr (v : W8) (s t : List UInt8) (k : Nat) (h : ∀ i, i < 64 * k → s.getD i 0 = t.getD i 0) : blksN v s k = blksN v t k := by
  induction k with
  | zero => rfl
  | succ k ih =>
    show blk (blksN v s k) _ = blk (blksN v t k) _
    rw [ih (fun i hi => h i (by omega))]
    refine blk_congr _ _ _ (fun i hi => ?_)
    have := h (64 * k + i) (by omega)
    simpa [List.getD_eq_getElem?_getD, List.getElem?_drop] using this
theorem blksN_append (v : W8) (a b : List UInt8) (k j : Nat) (h : a.length = 64 * k) : blksN v (a ++ b) (k + j) = blksN (blksN v a k) b j := by
  induction j with
  | zero =>
    show blksN v (a ++ b) k = blksN v a k
    refine blksN_congr v _ _ k (fun i hi => ?_)
    simp [List.getD_eq_getElem?_getD, List.getElem?_append, h, hi]
  | succ j ih =>
    show blk (blksN v (a ++ b) (k + j)) ((a ++ b).drop (64 * (k + j))) = blk (blksN (blksN v a k) b j) (b.drop (64 * j))
    rw [ih]
    congr 1
    rw [List.drop_append, h, List.drop_of_length_le (by omega), List.nil_append]
    congr 1
    omega
/-- eight words behind all blocks of a text, filled up -/
def sumW (l : List UInt8) : W8 := blksN first8 (l ++ fillL l.length) ((l.length + fillLen l.length) / 64)
/-- a byte of the sum -/
def kb (r : W8) (i : Nat) : UInt8 := UInt8.ofNat ((r.l.getD (i / 4) 0).toNat / 2 ^ (24 - 8 * (i % 4)))
def keyTo (r : W8) (k : Nat) : List UInt8 := (List.range k).map (kb r) ++ List.replicate (32 - k) 0
/-- the sum's 32 bytes -/
def keyL (r : W8) : List UInt8 := (List.range 32).map (kb r)
theorem keyTo_length (r : W8) (k : Nat) (h : k ≤ 32) : (keyTo r k).length = 32 := by simp [keyTo]; omega
theorem keyTo_zero (r : W8) : keyTo r 0 = List.replicate 32 0 := by simp [keyTo]
theorem keyTo_done (r : W8) : keyTo r 32 = keyL r := by simp [keyTo, keyL]
theorem keyTo_set (r : W8) (k : Nat) (h : k < 32) : (keyTo r k).set k (kb r k) = keyTo r (k + 1) := by
  unfold keyTo
  rw [List.set_append_right _ _ (by simp), List.length_map, List.length_range, Nat.sub_self, show 32 - k = (32 - (k + 1)) + 1 from by omega, List.replicate_succ, List.set_cons_zero, List.range_succ]
  simp
theorem sum_split (l : List UInt8) (p : Nat) (hp : p = 64 * (l.length / 64)) :
    blksN (blksN first8 (l.take p) (p / 64)) (l.drop p ++ fillL l.length) ((l.length - p + fillLen l.length) / 64) = sumW l := by
  unfold sumW
  have e : l ++ fillL l.length = l.take p ++ (l.drop p ++ fillL l.length) := by rw [← List.append_assoc, List.take_append_drop]
  have hm := fill_mod l.length
  rw [e, show (l.length + fillLen l.length) / 64 = p / 64 + (l.length - p + fillLen l.length) / 64 from by omega, blksN_append _ _ _ _ _ (by rw [List.length_take]; omega)]
theorem kb_int (r : W8) (k : Nat) : (((r.l.getD (k / 4) 0).toNat : Int) / 2 ^ (24 - 8 * (k % 4))) % 256 = ((kb r k).toNat : Int) := by
  unfold kb
  rw [UInt8.toNat_ofNat']
  simp
theorem abc_sum : keyL (sumW [97, 98, 99]) = [0xba, 0x78, 0x16, 0xbf, 0x8f, 0x01, 0xcf, 0xea, 0x41, 0x41, 0x40, 0xde, 0x5d, 0xae, 0x22, 0x23, 0xb0, 0x03, 0x61, 0xa3, 0x96, 0x17, 0x7a, 0x9c, 0xb4, 0x10, 0xff, 0x61, 0xf2, 0x00, 0x15, 0xad] := by decide +kernel
end Go.Proofs.YtolipnjlbdbofaaDoor
