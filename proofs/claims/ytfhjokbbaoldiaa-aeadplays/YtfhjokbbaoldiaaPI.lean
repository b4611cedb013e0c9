/- poly.Clamp: walked. -/
import Derived.Test.YtfhjokbbaoldiaaPH
namespace Go.Proofs.Ytfhjokbbaoldiaa
open Go.RowKit
/-- bits of n bytes made 0: of every fourth from place a on -/
def mk (l : List UInt8) (a : Nat) (m : UInt8) : Nat → List UInt8
  | 0 => l
  | n + 1 => (mk l a m n).set (a + 4 * n) ((mk l a m n).getD (a + 4 * n) 0 &&& m)
theorem mk_length (l : List UInt8) (a : Nat) (m : UInt8) (n : Nat) : (mk l a m n).length = l.length := by
  induction n with
  | zero => rfl
  | succ n ih => simp [mk, ih]
theorem getD_setB (l : List UInt8) (i j : Nat) (v : UInt8) (h : i < l.length) : (l.set i v).getD j 0 = if i = j then v else l.getD j 0 := by
  rw [List.getD_eq_getElem?_getD, List.getD_eq_getElem?_getD, List.getElem?_set]
  by_cases h1 : i = j
  · subst h1; simp [h]
  · simp [h1]
theorem mk_getD (l : List UInt8) (a : Nat) (m : UInt8) (n i : Nat) (h : a + 4 * n ≤ l.length + 3) :
    (mk l a m n).getD i 0 = if a ≤ i ∧ (i - a) % 4 = 0 ∧ i < a + 4 * n then l.getD i 0 &&& m else l.getD i 0 := by
  induction n with
  | zero => rw [if_neg (by omega)]; rfl
  | succ n ih =>
    have ih := ih (by omega)
    simp only [mk]
    rw [getD_setB _ _ _ _ (by rw [mk_length]; omega)]
    by_cases h1 : a + 4 * n = i
    · subst h1
      rw [if_pos rfl, if_pos (by omega), ih, if_neg (by omega)]
    · rw [if_neg h1, ih]
      by_cases h2 : a ≤ i ∧ (i - a) % 4 = 0 ∧ i < a + 4 * n
      · rw [if_pos h2, if_pos (by omega)]
      · rw [if_neg h2, if_neg (by omega)]
/-- a key with its bits made 0 -/
def clampL (l : List UInt8) : List UInt8 := mk (mk l 3 15 4) 4 252 3
theorem clampL_length (l : List UInt8) : (clampL l).length = l.length := by unfold clampL; rw [mk_length, mk_length]
def clF (i : Nat) (x : UInt8) : UInt8 := if i = 3 ∨ i = 7 ∨ i = 11 ∨ i = 15 then x &&& 15 else if i = 4 ∨ i = 8 ∨ i = 12 then x &&& 252 else x
theorem clampL_getD (l : List UInt8) (h : 16 ≤ l.length) (i : Nat) : (clampL l).getD i 0 = clF i (l.getD i 0) := by
  unfold clampL clF
  rw [mk_getD _ _ _ _ _ (by rw [mk_length]; omega), mk_getD _ _ _ _ _ (by omega)]
  by_cases h1 : i = 3 ∨ i = 7 ∨ i = 11 ∨ i = 15
  · rw [if_pos h1, if_neg (by omega), if_pos (by omega)]
  · rw [if_neg h1]
    by_cases h2 : i = 4 ∨ i = 8 ∨ i = 12
    · rw [if_pos h2, if_pos (by omega), if_neg (by omega)]
    · rw [if_neg h2, if_neg (by omega), if_neg (by omega)]
theorem and8 (x m : UInt8) : bits .and .u8 (x.toNat : Int) (m.toNat : Int) = ((x &&& m).toNat : Int) := by
  rw [u8_and_nat _ _ x.toNat_lt m.toNat_lt, UInt8.toNat_and]
theorem keyInfo (l : List UInt8) (hl : l.length = 32) : (Try.prog.info? 23).map (·.size) = some (bs l).size := by
  rw [bs_size, hl]; exact (by kernel_rfl : (Try.prog.info? 23).map (·.size) = some 32)
def zk32 : Array Value := bs (List.replicate 32 0)
theorem zk32_size (l : List UInt8) (hl : l.length = 32) : zk32.size = (bs l).size := by unfold zk32; rw [bs_size, bs_size, hl]; rfl
set_option maxRecDepth 20000 in
set_option maxHeartbeats 1000000 in
theorem clamp_any (k : List UInt8) (hk : k.length = 32) (w : World) :
    Calls Try.prog 33 #[.agg (bs k)] w fun e w' => e = .returned (.agg (bs (clampL k))) ∧ Below w.heap.size w w' := by
  have hE := two_new w (bs k) zk32 23 23
  obtain ⟨R, hR⟩ : ∃ R, R = clampL k := ⟨_, rfl⟩
  rw [← hR]
  have HR := Lib.hid hR
  clear hR
  have HK := Lib.hid hk
  clear hk
  go_enter Try.func33, Try.ntmps33
  go_upto_region 1 with fail
  change Code.wp _ _ _ _ ((w.alloc (.cells (bs k) 23)).alloc (.cells zk32 23))
  generalize (w.alloc (.cells (bs k) 23)).alloc (.cells zk32 23) = w0 at hE ⊢
  go_wp2
  go_loopw [3] (fun i wr => ∃ (n : Nat), n ≤ 4 ∧ i = .int .i64 ((3 + 4 * n : Nat) : Int) ∧ Has wr w.heap.size 23 (bs (mk k 3 15 n)) ∧ Has wr (w.heap.size + 1) 23 zk32 ∧ Below w.heap.size w wr) (fun i _ => 19 - (intOf i).toNat)
  case atStart => exact ⟨0, by omega, rfl, hE⟩
  case round =>
    clear hE w0
    obtain ⟨n, hn, rfl, i1, i2, hb⟩ := hrel
    by_cases hlt : n < 4
    · have t1 : decide (((3 + 4 * n : Nat) : Int) < 16) = true := by simp; omega
      have hj : ¬ ((32 : Int) ≤ ((3 + 4 * n : Nat) : Int)) := by omega
      have c1 := i1.byte (3 + 4 * n) (by rw [mk_length, HK.out]; omega)
      have f1 := i1.frozen (3 + 4 * n)
      have ha := and8 ((mk k 3 15 n).getD (3 + 4 * n) 0) 15
      have j1 := i1.setB (3 + 4 * n) ((mk k 3 15 n).getD (3 + 4 * n) 0 &&& 15)
      have j2 := i2.other (p := ⟨w.heap.size, 3 + 4 * n, none⟩) (by show w.heap.size + 1 ≠ w.heap.size; omega) (B8 ((mk k 3 15 n).getD (3 + 4 * n) 0 &&& 15))
      have jb := hb.setCell (p := ⟨w.heap.size, 3 + 4 * n, none⟩) (Nat.le_refl _) (B8 ((mk k 3 15 n).getD (3 + 4 * n) 0 &&& 15))
      have e1 : (mk k 3 15 n).set (3 + 4 * n) ((mk k 3 15 n).getD (3 + 4 * n) 0 &&& 15) = mk k 3 15 (n + 1) := rfl
      rw [e1] at j1
      generalize (mk k 3 15 n).getD (3 + 4 * n) 0 &&& 15 = y at ha j1 j2 jb
      generalize (mk k 3 15 n).getD (3 + 4 * n) 0 = x at c1 ha
      have HA := Lib.hid ha
      have HJ := Lib.hid (And.intro j1 (And.intro j2 jb))
      clear j1 j2 jb e1 i1 i2 hb ha
      have hw : IntKind.i64.wrap (((3 + 4 * n : Nat) : Int) + 4) = ((3 + 4 * (n + 1) : Nat) : Int) := by rw [IntWalk.i64_in _ (by omega)]; omega
      have hle : 3 + 4 * n < 16 := by omega
      generalize hq : 3 + 4 * n = q at *
      generalize hq2 : 3 + 4 * (n + 1) = q2 at *
      have ha2 : bits .and .u8 (x.toNat : Int) 15 = (y.toNat : Int) := HA.out
      go_wp2
      go_roundw
      case rel => exact ⟨n + 1, by omega, by rw [hq2], HJ.out⟩
      case measure => simp [intOf]; omega
    · have hn4 : n = 4 := by omega
      subst hn4
      have t1 : decide (((3 + 4 * 4 : Nat) : Int) < 16) = false := by decide
      have hl : (mk k 3 15 4).length = 32 := by rw [mk_length, HK.out]
      have hR := HR.out
      unfold clampL at hR
      generalize mk k 3 15 4 = k2 at i1 hl hR
      have HR2 := Lib.hid hR
      have HL := Lib.hid hl
      clear HR HK hl hR
      go_wp2_with fail
      go_loopw [4] (fun i wr => ∃ (n : Nat), n ≤ 3 ∧ i = .int .i64 ((4 + 4 * n : Nat) : Int) ∧ Has wr w.heap.size 23 (bs (mk k2 4 252 n)) ∧ Has wr (w.heap.size + 1) 23 zk32 ∧ Below w.heap.size w wr) (fun i _ => 19 - (intOf i).toNat)
      case atStart => exact ⟨0, by omega, rfl, i1, i2, hb⟩
      case round =>
        clear i1 i2 hb
        obtain ⟨n, hn, rfl, i1, i2, hb⟩ := hrel
        by_cases hlt : n < 3
        · have t1 : decide (((4 + 4 * n : Nat) : Int) < 16) = true := by simp; omega
          have hj : ¬ ((32 : Int) ≤ ((4 + 4 * n : Nat) : Int)) := by omega
          have c1 := i1.byte (4 + 4 * n) (by rw [mk_length, HL.out]; omega)
          have f1 := i1.frozen (4 + 4 * n)
          have ha := and8 ((mk k2 4 252 n).getD (4 + 4 * n) 0) 252
          have j1 := i1.setB (4 + 4 * n) ((mk k2 4 252 n).getD (4 + 4 * n) 0 &&& 252)
          have j2 := i2.other (p := ⟨w.heap.size, 4 + 4 * n, none⟩) (by show w.heap.size + 1 ≠ w.heap.size; omega) (B8 ((mk k2 4 252 n).getD (4 + 4 * n) 0 &&& 252))
          have jb := hb.setCell (p := ⟨w.heap.size, 4 + 4 * n, none⟩) (Nat.le_refl _) (B8 ((mk k2 4 252 n).getD (4 + 4 * n) 0 &&& 252))
          have e1 : (mk k2 4 252 n).set (4 + 4 * n) ((mk k2 4 252 n).getD (4 + 4 * n) 0 &&& 252) = mk k2 4 252 (n + 1) := rfl
          rw [e1] at j1
          generalize (mk k2 4 252 n).getD (4 + 4 * n) 0 &&& 252 = y at ha j1 j2 jb
          generalize (mk k2 4 252 n).getD (4 + 4 * n) 0 = x at c1 ha
          have HA := Lib.hid ha
          have HJ := Lib.hid (And.intro j1 (And.intro j2 jb))
          clear j1 j2 jb e1 i1 i2 hb ha
          have hw : IntKind.i64.wrap (((4 + 4 * n : Nat) : Int) + 4) = ((4 + 4 * (n + 1) : Nat) : Int) := by rw [IntWalk.i64_in _ (by omega)]; omega
          have hle : 4 + 4 * n < 16 := by omega
          generalize hq : 4 + 4 * n = q at *
          generalize hq2 : 4 + 4 * (n + 1) = q2 at *
          have ha2 : bits .and .u8 (x.toNat : Int) 252 = (y.toNat : Int) := HA.out
          go_wp2
          go_roundw
          case rel => exact ⟨n + 1, by omega, by rw [hq2], HJ.out⟩
          case measure => simp [intOf]; omega
        · have hn3 : n = 3 := by omega
          subst hn3
          have t1 : decide (((4 + 4 * 3 : Nat) : Int) < 16) = false := by decide
          rw [← HR2.out] at i1
          have hl : R.length = 32 := by rw [HR2.out, mk_length, HL.out]
          have HLR := Lib.hid hl
          clear hl HR2 HL
          go_wp2_with (first
            | (refine wpList_load_row rfl 23 (.tmp 1) rfl w.heap.size rfl 23 (bs R) (0, 0) _ i1 Try.underlying23 rfl (keyInfo R HLR.out) ?_)
            | (refine wpList_store_row rfl 23 (.tmp 2) (.tmp 23) rfl (w.heap.size + 1) (bs R) rfl rfl 23 zk32 i2 (keyInfo R HLR.out) (zk32_size R HLR.out) (bs_one R) ?_))
          refine bodyPost_ret (v := .agg (bs R)) (results_cell_row rfl _ _ (w.heap.size + 1) 23 (bs R) (0, 0) _ rfl (i2.setRow _) Try.underlying23 rfl (keyInfo R HLR.out)) rfl ⟨rfl, below_setRow hb (by omega) _⟩
end Go.Proofs.Ytfhjokbbaoldiaa
