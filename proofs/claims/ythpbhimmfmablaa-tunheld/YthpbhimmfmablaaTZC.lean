/- What a joiner holds: plain facts. No program is run here. -/
import Derived.Test.YthpbhimmfmablaaTZA
namespace Go.Proofs.Ythpbhimmfmablaa
open Go.RowKit
def oneS (c : Nat) (b : ByteArray) (k : Nat) : TS := ⟨k, c, (List.replicate c none).set 0 (some b)⟩
/-- the joiner's texts after i first pieces -/
def stH (c : Nat) (b : ByteArray) (i : Nat) : List TS := ((List.range i).drop (i - 8)).map (oneS c b)
theorem stH_len (c : Nat) (b : ByteArray) (i : Nat) : (stH c b i).length = min i 8 := by
  unfold stH
  rw [List.length_map, List.length_drop, List.length_range]
  omega
theorem stH_zero (c : Nat) (b : ByteArray) : stH c b 0 = [] := rfl
theorem stH_mem {c : Nat} {b : ByteArray} {i : Nat} {t : TS} (h : t ∈ stH c b i) : i - 8 ≤ t.n ∧ t.n < i := by
  unfold stH at h
  obtain ⟨k, hk, rfl⟩ := List.mem_map.1 h
  obtain ⟨j, hj, rfl⟩ := List.mem_iff_getElem.1 hk
  rw [List.length_drop, List.length_range] at hj
  rw [List.getElem_drop, List.getElem_range]
  show i - 8 ≤ i - 8 + j ∧ i - 8 + j < i
  omega
theorem cnt_one (c : Nat) (b : ByteArray) (h2 : 2 ≤ c) (h3 : c ≤ 3) : cntS ((List.replicate c (none : Option ByteArray)).set 0 (some b)) < c := by
  have : c = 2 ∨ c = 3 := by omega
  rcases this with rfl | rfl <;> simp [cntS, List.replicate]
theorem stH_room (c : Nat) (b : ByteArray) (i : Nat) : roomS (stH c b i) ++ [oneS c b i] = stH c b (i + 1) := by
  have hl := stH_len c b i
  unfold roomS
  by_cases h8 : 8 ≤ i
  · rw [if_pos (by omega)]
    unfold stH
    rw [List.eraseIdx_zero, ← List.drop_one, ← List.map_drop, List.drop_drop, List.range_succ, List.drop_append_of_le_length (by rw [List.length_range]; omega), List.map_append, show i - 8 + 1 = i + 1 - 8 by omega]
    rfl
  · rw [if_neg (by omega)]
    unfold stH
    rw [show i - 8 = 0 by omega, show i + 1 - 8 = 0 by omega, List.range_succ, List.drop_zero, List.drop_zero, List.map_append]
    rfl
/-- a new text's first piece -/
theorem heldS_new (c : Nat) (b : ByteArray) (h2 : 2 ≤ c) (h3 : c ≤ 3) (i k : Nat) (h : i ≤ k - 8 - 1 ∧ 8 < k ∨ k ≤ i) : (joinS (stH c b k) i c 0 b).2 = ([], false, 0) := by
  rw [join_newS _ i c 0 b (fun t ht => by have := stH_mem ht; omega), if_pos (cnt_one c b h2 h3)]
theorem heldS_step (c : Nat) (b : ByteArray) (h2 : 2 ≤ c) (h3 : c ≤ 3) (i : Nat) : joinS (stH c b i) i c 0 b = (stH c b (i + 1), [], false, 0) := by
  rw [join_newS _ i c 0 b (fun t ht => by have := stH_mem ht; omega), if_pos (cnt_one c b h2 h3), ← stH_room]
  rfl
theorem heldS_twice (c : Nat) (b : ByteArray) (h2 : 2 ≤ c) (h3 : c ≤ 3) (k i : Nat) (hk : k ≤ 8) (hi : i < k) : joinS (stH c b k) i c 0 b = (stH c b k, [], false, 10) := by
  have e : stH c b k = (List.range i).map (oneS c b) ++ oneS c b i :: ((List.range k).drop (i + 1)).map (oneS c b) := by
    unfold stH
    rw [show k - 8 = 0 by omega, List.drop_zero, ← List.map_cons, ← List.map_append]
    congr 1
    have h1 := List.take_append_drop i (List.range k)
    rw [List.take_range, Nat.min_eq_left (by omega), List.drop_eq_getElem_cons (by rw [List.length_range]; omega), List.getElem_range] at h1
    exact h1.symm
  rw [e, join_atS _ (oneS c b i) _ i c 0 b rfl (fun u hu => by
    obtain ⟨j, hj, rfl⟩ := List.mem_map.1 hu
    rw [List.mem_range] at hj
    show j ≠ i
    omega) rfl, if_pos (by
      show (((List.replicate c (none : Option ByteArray)).set 0 (some b)).getD 0 none).isSome = true
      have : c = 2 ∨ c = 3 := by omega
      rcases this with rfl | rfl <;> rfl)]
end Go.Proofs.Ythpbhimmfmablaa
