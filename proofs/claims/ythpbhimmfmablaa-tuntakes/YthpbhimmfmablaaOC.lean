/- oct.number, oct.Two, oct.Four: walked. -/
import Derived.Test.YthpbhimmfmablaaBU
import Derived.Test.YthpbhimmfmablaaOA
namespace Go.Proofs.Ythpbhimmfmablaa
open Go.RowKit
theorem padZ_set (xs : List UInt8) (n j : Nat) (hj : j < xs.length) (hn : j < n) : (xs.take j ++ List.replicate (n - j) 0).set j (xs.getD j 0) = xs.take (j + 1) ++ List.replicate (n - (j + 1)) 0 := by
  have hl : (xs.take j).length = j := by rw [List.length_take]; omega
  rw [List.set_append_right _ _ (by omega), hl, Nat.sub_self, show n - j = (n - (j + 1)) + 1 from by omega, List.replicate_succ, List.set_cons_zero, List.take_succ_eq_append_getElem hj, List.getD_eq_getElem?_getD, List.getElem?_eq_getElem hj]
  simp only [Option.getD_some, List.append_assoc, List.cons_append, List.nil_append]
theorem padZ_length (xs : List UInt8) (n j : Nat) (hj : j ≤ xs.length) (hn : j ≤ n) : (xs.take j ++ List.replicate (n - j) 0).length = n := by
  rw [List.length_append, List.length_take, List.length_replicate]; omega
theorem beTail_getD (c : Nat) (k j : Nat) (h : j < k) : (beTail c k).getD j 0 = UInt8.ofNat (c / 256 ^ (k - 1 - j)) := by
  induction k generalizing j with
  | zero => omega
  | succ k ih =>
    cases j with
    | zero => rfl
    | succ j =>
      show (beTail c k).getD j 0 = _
      rw [ih j (by omega), show k + 1 - 1 - (j + 1) = k - 1 - j from by omega]
theorem shr_ofNat (c k : Nat) : IntKind.u8.wrap ((c : Int) / 2 ^ (8 * k)) = ((UInt8.ofNat (c / 256 ^ k)).toNat : Int) := by
  rw [IntKind.wrap_u8', byte_shift]
/-- a number's z bytes, the highest first; none where it has more -/
def numL (n : Int) (z : Nat) : List UInt8 := if 0 ≤ n ∧ n < ((256 ^ z : Nat) : Int) then beTail n.toNat z else []
set_option maxRecDepth 20000 in
set_option maxHeartbeats 1000000 in
theorem number_in (n z : Nat) (hz0 : 1 ≤ z) (hz : z ≤ 6) (hn : n < 256 ^ z) (w : World) :
    Calls Try.prog 37 #[.int .i64 (n : Int), .int .i64 (z : Int)] w fun e w' => e = .returned (.string ⟨(beTail n z).toArray⟩) ∧ Below w.heap.size w w' := by
  have hmk := fun w => make_bytes z (by omega) w
  have hi : Has (w.alloc (.cells (bs (List.replicate z 0)) 5)) w.heap.size 5 (bs (List.replicate z 0)) := Has.fresh w _ _
  have hb0 : Below w.heap.size w (w.alloc (.cells (bs (List.replicate z 0)) 5)) := (Below.refl _ _).alloc (Nat.le_refl _) _
  have hbig : n < 281474976710656 := Nat.lt_of_lt_of_le hn (Nat.pow_le_pow_right (by omega) hz : 256 ^ z ≤ 256 ^ 6)
  have hw : IntKind.u64.wrap (n : Int) = (n : Int) := IntWalk.u64_in _ (by omega)
  have hsh : (n : Int) / 2 ^ (8 * z) = 0 := by
    rw [show ((2 : Int) ^ (8 * z)) = ((256 ^ z : Nat) : Int) from by rw [show (256 : Nat) = 2 ^ 8 from rfl, ← Nat.pow_mul]; simp]
    exact_mod_cast Nat.div_eq_of_lt hn
  have hby : ∀ j, j < z → IntKind.u8.wrap ((n : Int) / 2 ^ (8 * (z - 1 - j))) = (((beTail n z).getD j 0).toNat : Int) := fun j hj => by
    rw [shr_ofNat, beTail_getD n z j hj]
  have hll := beTail_length n z
  generalize beTail n z = R at hby hll ⊢
  have HBY := Lib.hid hby
  have HLL := Lib.hid hll
  clear hby hll hn
  go_enter Try.func37, Try.ntmps37
  go_wp2
  change Code.wp _ _ _ _ (w.alloc (.cells (bs (List.replicate z 0)) 5))
  generalize w.alloc (.cells (bs (List.replicate z 0)) 5) = w0 at hi hb0 ⊢
  go_wp2
  go_loopw [19] (fun i wr => ∃ (j : Nat), j ≤ z ∧ i = .int .i64 (j : Int) ∧ Has wr w.heap.size 5 (bs (R.take j ++ List.replicate (z - j) 0)) ∧ Below w.heap.size w wr) (fun i _ => z - (intOf i).toNat)
  case atStart => exact ⟨0, by omega, rfl, hi, hb0⟩
  case round =>
    clear hi hb0 w0
    obtain ⟨j, hj, rfl, i3, hb⟩ := hrel
    by_cases hlt : j < z
    · have t1 : decide ((j : Int) < (z : Int)) = true := by simp; omega
      have hby := HBY.out j hlt
      have c3 := i3.byte j (by rw [padZ_length R z j (by rw [HLL.out]; omega) (by omega)]; omega)
      have f3 := i3.frozen j
      have j3 := i3.setB j (R.getD j 0)
      rw [padZ_set R z j (by rw [HLL.out]; omega) (by omega)] at j3
      have jb := hb.setCell (p := ⟨w.heap.size, j, none⟩) (Nat.le_refl _) (B8 (R.getD j 0))
      generalize R.getD j 0 = y at hby j3 jb
      generalize (List.take j R ++ List.replicate (z - j) 0).getD j 0 = m at c3
      have HJ := Lib.hid (And.intro j3 jb)
      clear j3 jb i3 hb
      obtain ⟨q, hq⟩ : ∃ q, z - 1 - j = q := ⟨_, rfl⟩
      rw [hq] at hby
      have hz1 : IntKind.i64.wrap ((z : Int) - 1) = (z : Int) - 1 := by rw [IntWalk.i64_in _ (by omega)]
      have hz2 : IntKind.i64.wrap ((z : Int) - 1 - (j : Int)) = (q : Int) := by rw [IntWalk.i64_in _ (by omega)]; omega
      have hz3 : IntKind.i64.wrap (8 * (q : Int)) = 8 * (q : Int) := by rw [IntWalk.i64_in _ (by omega)]
      have hjz : (j : Int) < (z : Int) := by omega
      go_wp2
      go_roundw
      case rel => exact ⟨j + 1, by omega, by go_num, HJ.out⟩
      case measure => simp [intOf]; omega
    · have hj2 : j = z := by omega
      subst hj2
      rw [Nat.sub_self, List.replicate_zero, List.append_nil, List.take_of_length_le (by rw [HLL.out]; omega)] at i3
      have hcv := conv_bytes i3 j j HLL.out
      go_wp2
      go_ret
      exact ⟨rfl, hb⟩
set_option maxRecDepth 20000 in
theorem number_out (n : Int) (z : Nat) (hz : z ≤ 6) (h0 : -9223372036854775808 ≤ n) (h1 : n ≤ 9223372036854775807) (hn : ¬ (0 ≤ n ∧ n < ((256 ^ z : Nat) : Int))) (w : World) :
    Calls Try.prog 37 #[.int .i64 n, .int .i64 (z : Int)] w fun e w' => e = .returned (.string ⟨([] : List UInt8).toArray⟩) ∧ Below w.heap.size w w' := by
  have hp : 256 ^ z ≤ 256 ^ 6 := Nat.pow_le_pow_right (by omega) hz
  have hp0 : 0 < 256 ^ z := Nat.pow_pos (by omega)
  have hsh : ((IntKind.u64.wrap n) / 2 ^ (8 * z) != 0) = true := by
    rw [show ((2 : Int) ^ (8 * z)) = ((256 ^ z : Nat) : Int) from by rw [show (256 : Nat) = 2 ^ 8 from rfl, ← Nat.pow_mul]; simp]
    generalize 256 ^ z = q at hp hp0 hn ⊢
    have hw : (q : Int) ≤ IntKind.u64.wrap n := by rw [IntKind.wrap_u64]; omega
    rw [bne_iff_ne]
    intro he
    have := Int.le_ediv_of_mul_le (a := 1) (b := IntKind.u64.wrap n) (c := (q : Int)) (by omega) (by omega)
    omega
  have HN := Lib.hid hn
  clear hn hp hp0
  go_enter Try.func37, Try.ntmps37
  go_wp2
  go_ret
  exact ⟨rfl, Below.refl _ _⟩
theorem number_any (n : Int) (z : Nat) (hz0 : 1 ≤ z) (hz : z ≤ 6) (h0 : -9223372036854775808 ≤ n) (h1 : n ≤ 9223372036854775807) (w : World) :
    Calls Try.prog 37 #[.int .i64 n, .int .i64 (z : Int)] w fun e w' => e = .returned (.string ⟨(numL n z).toArray⟩) ∧ Below w.heap.size w w' := by
  unfold numL
  by_cases hn : 0 ≤ n ∧ n < ((256 ^ z : Nat) : Int)
  · rw [if_pos hn]
    obtain ⟨m, rfl⟩ : ∃ m : Nat, n = (m : Int) := ⟨n.toNat, by omega⟩
    exact number_in m z hz0 hz (by omega) w
  · rw [if_neg hn]
    exact number_out n z hz h0 h1 hn w
end Go.Proofs.Ythpbhimmfmablaa
