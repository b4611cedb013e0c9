/- Pieces taken: plain facts. No program is run here. -/
import Derived.Test.YthpbhimmfmablaaTUY
import Derived.Test.YthpbhimmfmablaaTUF
namespace Go.Proofs.Ythpbhimmfmablaa
open Go.RowKit
theorem chunk_size (s : ByteArray) (i : Nat) (h : i * 512 ≤ s.size) : (chunk s i).size = min (i * 512 + 512) s.size - i * 512 := by
  unfold chunk
  rw [ByteArray.size_extract]
  omega
theorem bAt_get (l : List UInt8) (b : ByteArray) (i : Nat) (h : i < l.length) : bAt ((⟨l.toArray⟩ : ByteArray) ++ b) i = l.getD i 0 := by
  unfold bAt
  rw [cat_list, List.getD_eq_getElem?_getD, List.getElem?_append_left h, ← List.getD_eq_getElem?_getD]
theorem low_nat (n : Nat) (h : n < 256) : (lowB1 (n : Int)).toNat = n := by
  have := low_u8 (n : Int)
  omega
/-- a piece is read as it was cut -/
theorem readP_piece (n : Nat) (hn : n < 4294967296) (s : ByteArray) (h1 : 1 ≤ s.size) (h2 : s.size ≤ 1536) (i : Nat) (hi : i < pieceN s.size) : readP (pieceB n s (pieceN s.size) i) = (0, (n, i, pieceN s.size, chunk s i)) := by
  have hc3 : pieceN s.size ≤ 3 := by unfold pieceN; omega
  have hcs : i * 512 < s.size := by unfold pieceN at hi; omega
  have hz := pieceB_size n s (pieceN s.size) i (by omega)
  have hcz := chunk_size s i (by omega)
  have hr : rightB (pieceN s.size) i ((pieceB n s (pieceN s.size) i).size - 7) = true := by
    rw [hz]
    unfold rightB
    unfold pieceN at hi hc3 ⊢
    simp only [Bool.and_eq_true, Bool.or_eq_true, decide_eq_true_eq]
    omega
  have hlen : ((((1 : UInt8) :: beTail n 4) ++ [lowB1 (i : Int)]) ++ [lowB1 (pieceN s.size : Int)]).length = 7 := by
    rw [List.length_append, List.length_append, List.length_cons, beTail_length]
    rfl
  have b4 := beTail_length n 4
  have g0 : bAt (pieceB n s (pieceN s.size) i) 0 = 1 := by
    unfold pieceB
    rw [bAt_get _ _ _ (by rw [hlen]; omega)]
    rfl
  have g5 : (bAt (pieceB n s (pieceN s.size) i) 5).toNat = i := by
    unfold pieceB
    rw [bAt_get _ _ _ (by rw [hlen]; omega), List.getD_eq_getElem?_getD, List.getElem?_append_left (by rw [List.length_append, List.length_cons, b4]; simp), List.getElem?_append_right (by rw [List.length_cons, b4]; omega), List.length_cons, b4]
    exact low_nat i (by omega)
  have g6 : (bAt (pieceB n s (pieceN s.size) i) 6).toNat = pieceN s.size := by
    unfold pieceB
    rw [bAt_get _ _ _ (by rw [hlen]; omega), List.getD_eq_getElem?_getD, List.getElem?_append_right (by rw [List.length_append, List.length_cons, b4]; simp), List.length_append, List.length_cons, b4]
    exact low_nat _ (by omega)
  have gn : numP ((pieceB n s (pieceN s.size) i).data.toList.drop 1) 4 = n := by
    unfold pieceB
    rw [cat_list]
    have e : List.drop 1 (((((1 : UInt8) :: beTail n 4) ++ [lowB1 (i : Int)]) ++ [lowB1 (pieceN s.size : Int)]) ++ (s.extract (i * 512) (min (i * 512 + 512) s.size)).data.toList) = beTail n 4 ++ ([lowB1 (i : Int)] ++ ([lowB1 (pieceN s.size : Int)] ++ (s.extract (i * 512) (min (i * 512 + 512) s.size)).data.toList)) := by simp
    rw [e, numP_app _ _ 4 (by rw [b4]; omega), num_four n hn]
  have gx : (pieceB n s (pieceN s.size) i).extract 7 (pieceB n s (pieceN s.size) i).size = chunk s i := ext_cat _ _ 7 hlen
  unfold readP
  have hm : 1 ≤ min (i * 512 + 512) s.size - i * 512 := by omega
  rw [if_neg (by omega), if_neg (by rw [g0]; simp), if_neg (by omega)]
  rw [g5, g6] at *
  rw [gn, gx, if_pos hr]
theorem take_piece (S : List TS) (n : Nat) (hn : n < 4294967296) (s : ByteArray) (h1 : 1 ≤ s.size) (h2 : s.size ≤ 1536) (i : Nat) (hi : i < pieceN s.size) : takeS S (pieceB n s (pieceN s.size) i) = joinS S n (pieceN s.size) i (chunk s i) := by
  unfold takeS
  have hr := readP_piece n hn s h1 h2 i hi
  have h0 : ¬ (pieceB n s (pieceN s.size) i).data.toList = [0] := fun e => by
    have hz := pieceB_size n s (pieceN s.size) i (by unfold pieceN at hi; omega)
    have hl : (pieceB n s (pieceN s.size) i).data.toList.length = (pieceB n s (pieceN s.size) i).size := len_list _
    rw [e] at hl
    simp at hl
    omega
  rw [if_neg h0, hr, if_neg (by simp)]
theorem joinB_chunks (s : ByteArray) : joinB ((List.range (pieceN s.size)).map (chunk s)) = s.data.toList := by
  have hl : s.data.toList.length = s.size := len_list s
  have key : ∀ k, joinB ((List.range k).map (chunk s)) = s.data.toList.take (k * 512) := by
    intro k
    induction k with
    | zero => simp [joinB]
    | succ k ih =>
      have e : joinB ((List.range (k + 1)).map (chunk s)) = joinB ((List.range k).map (chunk s)) ++ (chunk s k).data.toList := by
        unfold joinB
        rw [List.range_succ, List.map_append, List.map_append, List.flatten_append]
        simp
      rw [e, ih]
      unfold chunk
      rw [extract_list, Nat.succ_mul, List.take_add]
      congr 1
      apply List.ext_getElem?
      intro j
      rw [List.getElem?_take, List.getElem?_take]
      by_cases hj : j < 512
      · by_cases hj2 : k * 512 + j < s.size
        · rw [if_pos (by omega), if_pos hj]
        · rw [if_pos hj, if_neg (by omega), List.getElem?_eq_none (by rw [List.length_drop]; omega)]
      · rw [if_neg hj, if_neg (by omega)]
  rw [key, List.take_of_length_le (by rw [hl]; unfold pieceN; omega)]
/-- a new text -/
theorem idxS_new : ∀ (S : List TS) (n : Nat), (∀ t, t ∈ S → t.n ≠ n) → idxS S n = none
  | [], n, _ => rfl
  | t :: r, n, h => by
    unfold idxS
    rw [if_neg (h t (by simp)), idxS_new r n (fun u hu => h u (by simp [hu]))]
    rfl
theorem idxS_at : ∀ (A : List TS) (t : TS) (R : List TS) (n : Nat), t.n = n → (∀ u, u ∈ A → u.n ≠ n) → idxS (A ++ t :: R) n = some A.length
  | [], t, R, n, h, _ => by
    show idxS (t :: R) n = _
    unfold idxS
    rw [if_pos h]
    rfl
  | u :: A, t, R, n, h, hA => by
    show idxS (u :: (A ++ t :: R)) n = _
    unfold idxS
    rw [if_neg (hA u (by simp)), idxS_at A t R n h (fun v hv => hA v (by simp [hv]))]
    rfl
theorem getD_at (A : List TS) (t : TS) (R : List TS) : (A ++ t :: R).getD A.length dT = t := by
  rw [List.getD_eq_getElem?_getD, List.getElem?_append_right (Nat.le_refl _), Nat.sub_self]
  rfl
theorem set_at (A : List TS) (t u : TS) (R : List TS) : (A ++ t :: R).set A.length u = A ++ u :: R := by
  rw [List.set_append_right _ _ (Nat.le_refl _), Nat.sub_self]
  rfl
theorem erase_at (A : List TS) (t : TS) (R : List TS) : (A ++ t :: R).eraseIdx A.length = A ++ R := by
  rw [List.eraseIdx_append_of_length_le (Nat.le_refl _), Nat.sub_self]
  rfl
theorem join_newS (S : List TS) (n c p : Nat) (b : ByteArray) (h : ∀ t, t ∈ S → t.n ≠ n) :
    joinS S n c p b = if cntS ((List.replicate c none).set p (some b)) < c then (roomS S ++ [⟨n, c, (List.replicate c none).set p (some b)⟩], [], false, 0) else (roomS S, textS ((List.replicate c none).set p (some b)), true, 0) := by
  unfold joinS
  rw [idxS_new S n h]
  simp only
  unfold putS
  rw [getD_at (roomS S) ⟨n, c, List.replicate c none⟩ [], set_at, erase_at, List.append_nil]
theorem join_atS (A : List TS) (t : TS) (R : List TS) (n c p : Nat) (b : ByteArray) (h : t.n = n) (hA : ∀ u, u ∈ A → u.n ≠ n) (hc : t.c = c) :
    joinS (A ++ t :: R) n c p b = if (t.ps.getD p none).isSome then (A ++ t :: R, [], false, 10) else if cntS (t.ps.set p (some b)) < c then (A ++ ⟨n, c, t.ps.set p (some b)⟩ :: R, [], false, 0) else (A ++ R, textS (t.ps.set p (some b)), true, 0) := by
  unfold joinS
  rw [idxS_at A t R n h hA]
  simp only
  rw [getD_at, if_neg (fun e => e hc)]
  unfold putS
  rw [getD_at, set_at, erase_at, h, hc]
/-- which piece comes i-th -/
def kq (c r : Nat) (back : Bool) (i : Nat) : Nat := if back then c - 1 - (i + r) % c else (i + r) % c
/-- the pieces that came -/
def psAt (c r : Nat) (back : Bool) (x : Nat → ByteArray) (i : Nat) : List (Option ByteArray) := (List.range c).map fun q => if (List.range i).any (fun j => kq c r back j == q) then some (x q) else none
def stP (n c r : Nat) (back : Bool) (x : Nat → ByteArray) (i : Nat) : List TS := if i = 0 ∨ i = c then [] else [⟨n, c, psAt c r back x i⟩]
theorem steps (n c r : Nat) (back : Bool) (x : Nat → ByteArray) (i : Nat) (hc1 : 1 ≤ c) (hc3 : c ≤ 3) (hr : r < c) (hi : i < c) :
    joinS (stP n c r back x i) n c (kq c r back i) (x (kq c r back i)) = (stP n c r back x (i + 1), if i + 1 = c then joinB ((List.range c).map x) else [], decide (i + 1 = c), 0) ∧
      (i + 1 < c → joinS (stP n c r back x (i + 1)) n c (kq c r back i) (x (kq c r back i)) = (stP n c r back x (i + 1), [], false, 10)) := by
  have hcc : c = 1 ∨ c = 2 ∨ c = 3 := by omega
  rcases hcc with rfl | rfl | rfl
  · have : r = 0 := by omega
    have : i = 0 := by omega
    subst_vars
    cases back <;> simp [stP, kq, joinS, putS, idxS, roomS, cntS, textS, joinB]
  · have hr2 : r = 0 ∨ r = 1 := by omega
    have hi2 : i = 0 ∨ i = 1 := by omega
    rcases hr2 with rfl | rfl <;> rcases hi2 with rfl | rfl <;> cases back <;> simp [stP, psAt, kq, joinS, putS, idxS, roomS, cntS, textS, joinB, List.range_succ]
  · have hr2 : r = 0 ∨ r = 1 ∨ r = 2 := by omega
    have hi2 : i = 0 ∨ i = 1 ∨ i = 2 := by omega
    rcases hr2 with rfl | rfl | rfl <;> rcases hi2 with rfl | rfl | rfl <;> cases back <;> simp [stP, psAt, kq, joinS, putS, idxS, roomS, cntS, textS, joinB, List.range_succ]
end Go.Proofs.Ythpbhimmfmablaa
