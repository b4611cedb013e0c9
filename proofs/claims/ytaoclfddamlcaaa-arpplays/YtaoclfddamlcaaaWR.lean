/- The document's Parse: walked, whatever the text. -/
import Derived.Test.YtaoclfddamlcaaaWI
import Derived.Test.YtaoclfddamlcaaaWF
namespace Go.Proofs.Ytaoclfddamlcaaa
open Go.RowKit
/-- the first k of n bytes at a place, zeros behind them -/
def fl9 (s : ByteArray) (a n k : Nat) : List UInt8 := (cut9 s a n).take k ++ List.replicate (n - k) 0
theorem cut9_getD (s : ByteArray) (a n k : Nat) (hk : k < n) : (cut9 s a n).getD k 0 = bAt s (a + k) := by
  unfold cut9 bAt
  rw [List.getD_eq_getElem?_getD, List.getElem?_take_of_lt hk, List.getElem?_drop, List.getD_eq_getElem?_getD]
theorem fl9_length (s : ByteArray) (a n k : Nat) (h : a + n ≤ s.size) (hk : k ≤ n) : (fl9 s a n k).length = n := by
  unfold fl9
  rw [List.length_append, List.length_take, List.length_replicate, cut9_length s a n h]
  omega
theorem fl9_set (s : ByteArray) (a n k : Nat) (h : a + n ≤ s.size) (hk : k < n) : (fl9 s a n k).set k (bAt s (a + k)) = fl9 s a n (k + 1) := by
  have hl := cut9_length s a n h
  unfold fl9
  rw [← cut9_getD s a n k hk]
  generalize cut9 s a n = xs at hl
  have e : List.replicate (n - k) (0 : UInt8) = 0 :: List.replicate (n - (k + 1)) 0 := by
    rw [show n - k = (n - (k + 1)) + 1 from by omega, List.replicate_succ]
  rw [List.set_append_right _ _ (by rw [List.length_take]; omega), List.length_take, Nat.min_eq_left (by omega), Nat.sub_self, e, List.set_cons_zero, List.take_succ_eq_append_getElem (by omega), List.append_assoc, List.getD_eq_getElem?_getD, List.getElem?_eq_getElem (by omega)]
  rfl
theorem fl9_zero (s : ByteArray) (a n : Nat) : fl9 s a n 0 = List.replicate n 0 := by
  unfold fl9
  rw [List.take_zero, List.nil_append, Nat.sub_zero]
theorem fl9_done (s : ByteArray) (a n : Nat) (h : a + n ≤ s.size) : fl9 s a n n = cut9 s a n := by
  have hl := cut9_length s a n h
  unfold fl9
  rw [List.take_of_length_le (by omega), Nat.sub_self, List.replicate_zero, List.append_nil]
theorem part_one (A B C : List UInt8) (n k : Nat) (hn : A.length = n) (hk : k < B.length) (v : Value) (y : UInt8) :
    (v :: (A ++ (B ++ C)).map B8).toArray.setIfInBounds (n + 1 + k) (B8 y) = (v :: (A ++ (B.set k y ++ C)).map B8).toArray := by
  subst hn
  rw [List.setIfInBounds_toArray, show A.length + 1 + k = (A.length + k) + 1 from by omega, List.set_cons_succ, List.map_append, List.map_append, List.set_append_right _ _ (by simp), List.set_append_left _ _ (by simpa using hk)]
  simp [List.map_set]
section
variable {x : A9}
theorem A9.one_m (h : x.Fit) (k : Nat) (hk : k < 6) (y : UInt8) : x.c.setIfInBounds (1 + k) (B8 y) = A9.c { x with m := x.m.set k y } := part_one [] x.m (x.t ++ (x.i ++ x.w)) 0 k rfl (by rw [h.m]; exact hk) _ y
theorem A9.one_t (h : x.Fit) (k : Nat) (hk : k < 6) (y : UInt8) : x.c.setIfInBounds (7 + k) (B8 y) = A9.c { x with t := x.t.set k y } := part_one x.m x.t (x.i ++ x.w) 6 k h.m (by rw [h.t]; exact hk) _ y
theorem A9.one_i (h : x.Fit) (k : Nat) (hk : k < 4) (y : UInt8) : x.c.setIfInBounds (13 + k) (B8 y) = A9.c { x with i := x.i.set k y } := by
  have := part_one (x.m ++ x.t) x.i x.w 12 k (by rw [List.length_append, h.m, h.t]) (by rw [h.i]; exact hk) (Value.int .i64 x.op) y
  simp only [List.append_assoc] at this
  exact this
theorem A9.one_w (h : x.Fit) (k : Nat) (hk : k < 4) (y : UInt8) : x.c.setIfInBounds (17 + k) (B8 y) = A9.c { x with w := x.w.set k y } := by
  have := part_one (x.m ++ (x.t ++ x.i)) x.w [] 16 k (by simp [h.m, h.t, h.i]) (by rw [h.w]; exact hk) (Value.int .i64 x.op) y
  simp only [List.append_assoc, List.append_nil] at this
  exact this
theorem Has.a1 {w : World} {g : Nat} {t : TypeId} (h : Has w g t x.c) (hx : x.Fit) (j : Nat) (h0 : 1 ≤ j) (h1 : j < 21) : ∃ b : UInt8, w.cell? ⟨g, j, none⟩ = some (B8 b) := by
  obtain ⟨i, rfl⟩ : ∃ i, j = i + 1 := ⟨j - 1, by omega⟩
  have hl : i < ((x.m ++ (x.t ++ (x.i ++ x.w))).map B8).length := by simp [hx.m, hx.t, hx.i, hx.w]; omega
  have hl2 : i < (x.m ++ (x.t ++ (x.i ++ x.w))).length := by simpa using hl
  refine ⟨(x.m ++ (x.t ++ (x.i ++ x.w)))[i], ?_⟩
  rw [h.cell]
  unfold A9.c
  rw [List.getElem?_toArray, List.getElem?_cons_succ, List.getElem?_map, List.getElem?_eq_getElem hl2]
  rfl
end
theorem cut9_seven (s : ByteArray) (h : 28 ≤ s.size) : cut9 s 0 7 = cut9 s 0 6 ++ [bAt s 6] := by
  have hl : 6 < s.data.toList.length := by rw [len_list]; omega
  unfold cut9 bAt
  rw [List.drop_zero, List.take_succ_eq_append_getElem hl, List.getD_eq_getElem?_getD, List.getElem?_eq_getElem hl]
  rfl
theorem ref9_yes (s : ByteArray) (h : 28 ≤ s.size) (h7 : cut9 s 0 7 = [0, 1, 8, 0, 6, 4, 0]) (ho : bAt s 7 = 1 ∨ bAt s 7 = 2) : parse9 s = (0, body9 s) ∧ (wd s 6 : Int) = ((bAt s 7).toNat : Int) := by
  rw [cut9_seven s h] at h7
  have hl := cut9_length s 0 6 (by omega)
  have h6 : cut9 s 0 6 = headL ∧ [bAt s 6] = [0] := List.append_inj h7 (by rw [hl]; rfl)
  have hb : bAt s 6 = 0 := by simpa using h6.2
  have hw : (wd s 6 : Int) = ((bAt s 7).toNat : Int) := by
    unfold wd
    rw [hb]
    have : (0 : UInt8).toNat = 0 := rfl
    rw [this]
    simp
  refine ⟨?_, hw⟩
  unfold parse9
  rw [if_neg (by omega), if_neg (fun e => e h6.1), hw, if_pos (by rcases ho with e | e <;> rw [e] <;> decide)]
theorem ref9_no (s : ByteArray) (h : 28 ≤ s.size) (hn : cut9 s 0 7 = [0, 1, 8, 0, 6, 4, 0] → ¬ bAt s 7 = 1 ∧ ¬ bAt s 7 = 2) : parse9 s = (3, az) := by
  unfold parse9
  rw [if_neg (by omega)]
  by_cases h6 : cut9 s 0 6 = headL
  · rw [if_neg (fun e => e h6)]
    by_cases hr : rightO (wd s 6) = true
    · exfalso
      have h1 := UInt8.toNat_lt (bAt s 6)
      have h2 := UInt8.toNat_lt (bAt s 7)
      have hwd : wd s 6 = (bAt s 6).toNat * 256 + (bAt s 7).toNat := rfl
      have hz : bAt s 6 = 0 := by
        apply UInt8.toNat_inj.1
        rcases rightO_spec hr with e | e <;> · show (bAt s 6).toNat = 0; omega
      have h7 : cut9 s 0 7 = [0, 1, 8, 0, 6, 4, 0] := by rw [cut9_seven s h, h6, hz]; rfl
      obtain ⟨n1, n2⟩ := hn h7
      rw [hz] at hwd
      rcases rightO_spec hr with e | e
      · exact n1 (by apply UInt8.toNat_inj.1; show (bAt s 7).toNat = 1; rw [show (0 : UInt8).toNat = 0 from rfl] at hwd; omega)
      · exact n2 (by apply UInt8.toNat_inj.1; show (bAt s 7).toNat = 2; rw [show (0 : UInt8).toNat = 0 from rfl] at hwd; omega)
    · rw [if_neg hr]
  · rw [if_pos h6]
end Go.Proofs.Ytaoclfddamlcaaa
