/- Pieces of two texts, mixed: plain facts. No program is run here. -/
import Derived.Test.YthpbhimmfmablaaTZA
namespace Go.Proofs.Ythpbhimmfmablaa
open Go.RowKit
/-- the text of which the first i pieces came -/
def paS (n c : Nat) (x : Nat → ByteArray) (i : Nat) : List TS := if i = 0 ∨ i = c then [] else [⟨n, c, (List.range c).map fun q => if q < i then some (x q) else none⟩]
theorem paS_mem {n c : Nat} {x : Nat → ByteArray} {i : Nat} {t : TS} (h : t ∈ paS n c x i) : t.n = n := by
  unfold paS at h
  split at h
  · cases h
  · rw [List.mem_singleton] at h
    rw [h]
theorem paS_len (n c : Nat) (x : Nat → ByteArray) (i : Nat) : (paS n c x i).length ≤ 1 := by
  unfold paS
  split <;> simp
theorem paS_end (n c : Nat) (x : Nat → ByteArray) : paS n c x c = [] := by unfold paS; simp
theorem paS_zero (n c : Nat) (x : Nat → ByteArray) : paS n c x 0 = [] := by unfold paS; simp
theorem mix_step (n c : Nat) (x : Nat → ByteArray) (i : Nat) (R S : List TS) (hR : ∀ t, t ∈ R → t.n ≠ n) (hl : R.length ≤ 1) (hS : S = paS n c x i ++ R ∨ S = R ++ paS n c x i) (hc1 : 1 ≤ c) (hc3 : c ≤ 3) (hi : i < c) :
    ∃ S', joinS S n c i (x i) = (S', if i + 1 = c then joinB ((List.range c).map x) else [], decide (i + 1 = c), 0) ∧ (S' = paS n c x (i + 1) ++ R ∨ S' = R ++ paS n c x (i + 1)) := by
  have hroom : roomS R = R := by unfold roomS; rw [if_neg (by omega)]
  by_cases h0 : i = 0
  · subst h0
    have hS0 : S = R := by rcases hS with rfl | rfl <;> simp [paS]
    subst hS0
    rw [join_newS S n c 0 (x 0) hR, hroom]
    have hcc : c = 1 ∨ c = 2 ∨ c = 3 := by omega
    rcases hcc with rfl | rfl | rfl <;> refine ⟨_, by simp [cntS, textS, joinB, List.range_succ, List.replicate]; rfl, Or.inr ?_⟩ <;> simp [paS, List.range_succ]
  · have key : ∀ (A B : List TS), (∀ t, t ∈ A → t.n ≠ n) → S = A ++ paS n c x i ++ B → joinS S n c i (x i) = (A ++ paS n c x (i + 1) ++ B, if i + 1 = c then joinB ((List.range c).map x) else [], decide (i + 1 = c), 0) := by
      intro A B hA hS
      have hcc : (c = 2 ∧ i = 1) ∨ (c = 3 ∧ i = 1) ∨ (c = 3 ∧ i = 2) := by omega
      have hp : paS n c x i = [⟨n, c, (List.range c).map fun q => if q < i then some (x q) else none⟩] := by
        unfold paS
        rw [if_neg (by omega)]
      rw [hS, hp, List.append_assoc, List.singleton_append, join_atS A _ B n c i (x i) rfl hA rfl]
      rcases hcc with ⟨rfl, rfl⟩ | ⟨rfl, rfl⟩ | ⟨rfl, rfl⟩ <;> simp [paS, cntS, textS, joinB, List.range_succ]
    rcases hS with hS | hS
    · exact ⟨_, key [] R (fun t ht => by cases ht) hS, Or.inl (by simp)⟩
    · exact ⟨_, key R [] hR (by rw [hS]; simp), Or.inr (by simp)⟩
/-- the joiner's texts after i pieces of the one, k of the other -/
def Mix (n m ca cb : Nat) (x y : Nat → ByteArray) (i k : Nat) (S : List TS) : Prop := S = paS n ca x i ++ paS m cb y k ∨ S = paS m cb y k ++ paS n ca x i
theorem mix_zero (n m ca cb : Nat) (x y : Nat → ByteArray) : Mix n m ca cb x y 0 0 [] := Or.inl (by rw [paS_zero, paS_zero]; rfl)
theorem mix_end {n m ca cb : Nat} {x y : Nat → ByteArray} {S : List TS} (h : Mix n m ca cb x y ca cb S) : S = [] := by
  rcases h with rfl | rfl <;> rw [paS_end, paS_end] <;> rfl
theorem mix_one {n m ca cb : Nat} {x y : Nat → ByteArray} {i k : Nat} {S : List TS} (h : Mix n m ca cb x y i k S) (hnm : n ≠ m) (hc1 : 1 ≤ ca) (hc3 : ca ≤ 3) (hi : i < ca) :
    ∃ S', joinS S n ca i (x i) = (S', if i + 1 = ca then joinB ((List.range ca).map x) else [], decide (i + 1 = ca), 0) ∧ Mix n m ca cb x y (i + 1) k S' :=
  mix_step n ca x i (paS m cb y k) S (fun t ht => by rw [paS_mem ht]; exact fun e => hnm e.symm) (paS_len _ _ _ _) h hc1 hc3 hi
theorem mix_two {n m ca cb : Nat} {x y : Nat → ByteArray} {i k : Nat} {S : List TS} (h : Mix n m ca cb x y i k S) (hnm : n ≠ m) (hc1 : 1 ≤ cb) (hc3 : cb ≤ 3) (hk : k < cb) :
    ∃ S', joinS S m cb k (y k) = (S', if k + 1 = cb then joinB ((List.range cb).map y) else [], decide (k + 1 = cb), 0) ∧ Mix n m ca cb x y i (k + 1) S' := by
  obtain ⟨S', h1, h2⟩ := mix_step m cb y k (paS n ca x i) S (fun t ht => by rw [paS_mem ht]; exact hnm) (paS_len _ _ _ _) (Or.symm h) hc1 hc3 hk
  exact ⟨S', h1, Or.symm h2⟩
end Go.Proofs.Ythpbhimmfmablaa
