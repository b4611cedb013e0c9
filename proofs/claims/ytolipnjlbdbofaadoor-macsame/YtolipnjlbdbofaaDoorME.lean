/- causeylaw02.awake, mac.Same, and the walk of law MacSame. Condition: the table of constants lies in memory as the program's text lays it. -/
import Derived.Test.YtolipnjlbdbofaaDoorMD
import Derived.Test.YtolipnjlbdbofaaDoorJ
namespace Go.Proofs.YtolipnjlbdbofaaDoor
open Go.RowKit
theorem sameKey (L : List UInt8) (hl : L.length = 32) (w : World) : (Op.equalIn 10000 25 (.agg (bs L)) (.agg (bs L))).run Tryd.prog w = .ok true w := by
  have h := eq_bytes (P := Tryd.prog) w 25 5 32 Tryd.underlying25 Tryd.underlying5 (by kernel_rfl) L L hl hl
  have hself : (L == L) = true := by simp
  rw [hself] at h
  exact h
theorem or8 (a b : UInt8) : bits .or .u8 (a.toNat : Int) (b.toNat : Int) = ((a ||| b).toNat : Int) := by
  rw [u8_or_nat _ _ a.toNat_lt b.toNat_lt, UInt8.toNat_or]
/-- what is unlike in the first k bytes -/
def dif (a b : List UInt8) : Nat → UInt8
  | 0 => 0
  | k + 1 => dif a b k ||| (a.getD k 0 ^^^ b.getD k 0)
theorem u8_or_zero (x y : UInt8) : (x ||| y = 0) ↔ (x = 0 ∧ y = 0) := by
  constructor
  · intro h
    have h2 := congrArg UInt8.toNat h
    rw [UInt8.toNat_or] at h2
    have h3 : x.toNat ||| y.toNat = 0 := h2
    rw [Nat.or_eq_zero_iff] at h3
    exact ⟨UInt8.toNat_inj.1 h3.1, UInt8.toNat_inj.1 h3.2⟩
  · rintro ⟨rfl, rfl⟩; rfl
theorem u8_xor_zero (x y : UInt8) : (x ^^^ y = 0) ↔ x = y := UInt8.xor_eq_zero_iff
theorem dif_zero (a b : List UInt8) (k : Nat) : dif a b k = 0 ↔ ∀ i, i < k → a.getD i 0 = b.getD i 0 := by
  induction k with
  | zero => exact ⟨fun _ i hi => by omega, fun _ => rfl⟩
  | succ k ih =>
    show dif a b k ||| _ = 0 ↔ _
    rw [u8_or_zero, ih, u8_xor_zero]
    constructor
    · rintro ⟨h1, h2⟩ i hi
      rcases Nat.lt_succ_iff_lt_or_eq.1 hi with h | rfl
      · exact h1 i h
      · exact h2
    · intro h
      exact ⟨fun i hi => h i (by omega), h k (by omega)⟩
theorem dif_same (a b : ByteArray) (h : a.size = b.size) : (dif a.data.toList b.data.toList a.size = 0) ↔ a = b := by
  rw [dif_zero]
  constructor
  · intro h2
    apply ByteArray.ext
    apply Array.toList_inj.1
    apply List.ext_getElem (by rw [len_list, len_list, h])
    intro i h3 h4
    have := h2 i (by rw [len_list] at h3; exact h3)
    simpa only [List.getD_eq_getElem?_getD, List.getElem?_eq_getElem h3, List.getElem?_eq_getElem h4, Option.getD_some] using this
  · rintro rfl i _; rfl
set_option maxHeartbeats 400000 in
theorem same_any (a b : ByteArray) (w : World) (ha : a.size ≤ 9223372036854775807) :
    Calls Tryd.prog 15 #[.string a, .string b] w fun e w' => e = .returned (.bool (decide (a = b))) ∧ Below w.heap.size w w' := by
  by_cases hsz : a.size = b.size
  · have t1 : ((a.size : Int) != (b.size : Int)) = false := by simp; omega
    have hD := dif_same a b hsz
    have HD := Lib.hid hD
    clear hD
    go_enter Tryd.func15, Tryd.ntmps15
    go_wp2
    go_loopw [5, 14] (fun u i wr => ∃ k : Nat, k ≤ a.size ∧ u = B8 (dif a.data.toList b.data.toList k) ∧ i = .int .i64 k ∧ Below w.heap.size w wr) (fun _ i _ => a.size - (intOf i).toNat)
    case atStart => exact ⟨0, by omega, rfl, rfl, Below.refl _ _⟩
    case round =>
      obtain ⟨k, hk, rfl, rfl, hbr⟩ := hrel
      by_cases hlt : k < a.size
      · have t2 : decide ((k : Int) < (a.size : Int)) = true := by simp; omega
        have h1 : (k : Int) < (a.size : Int) := by omega
        have h2 : (k : Int) < (b.size : Int) := by omega
        go_wp2
        go_quiet (fail)
        rw [xor8, or8, bAt_eq a k hlt, bAt_eq b k (by omega)]
        have hn : dif a.data.toList b.data.toList k ||| (bAt a k ^^^ bAt b k) = dif a.data.toList b.data.toList (k + 1) := rfl
        rw [hn]
        go_wp2
        go_roundw
        case rel => exact ⟨k + 1, by omega, rfl, by go_num, below_drewN hbr nq⟩
        case measure => simp [intOf]; omega
      · have hk2 : k = a.size := by omega
        subst hk2
        have hD := HD.out
        by_cases he : dif a.data.toList b.data.toList a.size = 0
        · rw [he]
          have hab := hD.1 he
          have HAB := Lib.hid hab
          clear hab hD
          go_wp2
          go_ret
          exact ⟨by rw [decide_eq_true HAB.out]; rfl, hbr⟩
        · have hab : decide (a = b) = false := decide_eq_false (fun h => he (hD.2 h))
          have t3 : (((dif a.data.toList b.data.toList a.size).toNat : Int) == 0) = false := by
            rw [beq_eq_false_iff_ne]
            intro h
            exact he (UInt8.toNat_inj.1 (Int.ofNat_inj.1 h))
          generalize dif a.data.toList b.data.toList a.size = d at t3
          have HAB := Lib.hid hab
          clear hab hD he
          go_wp2
          go_ret
          exact ⟨by rw [HAB.out]; rfl, hbr⟩
  · have t1 : ((a.size : Int) != (b.size : Int)) = true := by simp; omega
    have hab : decide (a = b) = false := decide_eq_false (fun h => hsz (by rw [h]))
    have HAB := Lib.hid hab
    clear hab
    go_enter Tryd.func15, Tryd.ntmps15
    go_wp2
    go_ret
    exact ⟨by rw [HAB.out]; rfl, Below.refl _ _⟩
set_option maxHeartbeats 400000 in
theorem awake2_any (w : World) (hT : HasK w) : Calls Tryd.prog 8 #[] w fun e w' => e = .returned (.bool true) ∧ Below w.heap.size w w' := by
  have hc := macSum_any ⟨jefeK.toArray⟩ ⟨jefeS.toArray⟩ (by decide) (by decide) w hT
  rw [str_list, str_list] at hc
  obtain ⟨e0, e1, e2, e3⟩ := jefe_sum
  have hl := hmacL_length jefeK jefeS
  generalize hmacL jefeK jefeS = R at hc e0 e1 e2 e3 hl
  have HC := Lib.hid hc
  have HL := Lib.hid hl
  have HE := Lib.hid (And.intro e0 (And.intro e1 (And.intro e2 e3)))
  clear hc hl e0 e1 e2 e3
  go_enter Tryd.func8, Tryd.ntmps8
  go_wp2_with fail
  refine HC.out.mono ?_
  rintro e w1 ⟨rfl, hb1⟩
  have hN : Has (w1.alloc (.cells z32 25)) w1.heap.size 25 z32 := Has.fresh w1 25 _
  have hN2 := hN.setRow (bs R)
  have hb2 := below_setRow (hb1.alloc hb1.size (.cells z32 25)) (g := w1.heap.size) hb1.size (bs R)
  go_upto_region 2 with
    (refine wpList_store_row rfl 25 (.tmp 1) (.tmp 2) rfl w1.heap.size (bs R) rfl rfl 25 z32 hN (info32 R HL.out) (z32_size R HL.out) (bs_one R) ?_)
  change Code.wp _ _ _ _ ((w1.alloc (.cells z32 25)).setRow w1.heap.size (bs R))
  generalize (w1.alloc (.cells z32 25)).setRow w1.heap.size (bs R) = wr at hN2 hb2 ⊢
  have c0 := hN2.byte 0 (by rw [HL.out]; omega)
  have c1 := hN2.byte 1 (by rw [HL.out]; omega)
  have c2 := hN2.byte 30 (by rw [HL.out]; omega)
  have c3 := hN2.byte 31 (by rw [HL.out]; omega)
  obtain ⟨e0, e1, e2, e3⟩ := HE.out
  rw [e0] at c0
  rw [e1] at c1
  rw [e2] at c2
  rw [e3] at c3
  clear e0 e1 e2 e3 hN2 HE
  go_wp2
  go_ret
  exact ⟨rfl, hb2⟩
end Go.Proofs.YtolipnjlbdbofaaDoor
