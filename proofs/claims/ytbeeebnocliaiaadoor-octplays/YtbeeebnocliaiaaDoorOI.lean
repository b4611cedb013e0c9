/- What the seat's listed variables give a walk; oct.decimal, oct.IpText: walked. -/
import Derived.Test.YtbeeebnocliaiaaDoorOE
import Derived.Test.YtbeeebnocliaiaaDoorSI
import Derived.Lib.LaidTab
namespace Go.Proofs.YtbeeebnocliaiaaDoor
open Go.RowKit
/-- the table of powers of ten lies as its initialiser lays it -/
def HasT (w : World) : Prop := Lib.TabIs Tryd.prog w "internal/strconv.uint64pow10" .u64 Lib.pow10Tab
theorem HasT.below {w w' : World} (h : HasT w) (hb : Below w.heap.size w w') : HasT w' := by
  unfold HasT Lib.TabIs World.var? at *
  cases hg : Tryd.prog.globalNamed "internal/strconv.uint64pow10" with
  | none => simp [hg] at h
  | some g =>
    simp only [hg, Option.bind_some] at h ⊢
    have hlt : g < w.heap.size := by
      rcases Nat.lt_or_ge g w.heap.size with h' | h'
      · exact h'
      · rw [Array.getElem?_eq_none h'] at h; simp at h
    rw [hb.block g hlt]
    exact h
/-- a byte's number in decimal -/
def decL (b : UInt8) : List UInt8 := Lib.itoa (b.toNat : Int)
theorem decDigits_small (u : Nat) (h : u < 10) : Lib.decDigits u = [UInt8.ofNat (48 + u)] := by rw [Lib.decDigits, dif_pos h]
theorem decDigits_step (u : Nat) (h : ¬ u < 10) : Lib.decDigits u = Lib.decDigits (u / 10) ++ [UInt8.ofNat (48 + u % 10)] := by rw [Lib.decDigits, dif_neg h]
/-- up to three digits -/
def dec3 (n : Nat) : List UInt8 := if n < 10 then [UInt8.ofNat (48 + n)] else if n < 100 then [UInt8.ofNat (48 + n / 10), UInt8.ofNat (48 + n % 10)] else [UInt8.ofNat (48 + n / 10 / 10), UInt8.ofNat (48 + n / 10 % 10), UInt8.ofNat (48 + n % 10)]
theorem decL_eq (b : UInt8) : decL b = dec3 b.toNat := by
  have hb := UInt8.toNat_lt b
  have e : decL b = Lib.decDigits b.toNat := by
    unfold decL Lib.itoa
    rw [if_neg (by omega), Int.toNat_natCast]
  rw [e]
  generalize b.toNat = n at hb ⊢
  unfold dec3
  by_cases h1 : n < 10
  · rw [if_pos h1, decDigits_small n h1]
  · rw [if_neg h1]
    by_cases h2 : n < 100
    · rw [if_pos h2, decDigits_step n h1, decDigits_small (n / 10) (by omega)]
      rfl
    · rw [if_neg h2, decDigits_step n h1, decDigits_step (n / 10) (by omega), decDigits_small (n / 10 / 10) (by omega)]
      rfl
theorem decL_length (b : UInt8) : 1 ≤ (decL b).length ∧ (decL b).length ≤ 3 := by
  rw [decL_eq]
  unfold dec3
  split
  · exact ⟨by show 1 ≤ 1; omega, by show 1 ≤ 3; omega⟩
  · split
    · exact ⟨by show 1 ≤ 2; omega, by show 2 ≤ 3; omega⟩
    · exact ⟨by show 1 ≤ 3; omega, by show 3 ≤ 3; omega⟩
theorem below_grown (w : World) (k : Nat) (os : Array Obj) : Below w.heap.size w (Sort.grow (w.drewN k) os) :=
  ⟨rfl, rfl, rfl, by show w.heap.size ≤ (w.heap ++ os).size; rw [Array.size_append]; omega, fun j hj => by show (w.heap ++ os)[j]? = w.heap[j]?; exact Array.getElem?_append_left hj⟩
set_option maxRecDepth 20000 in
theorem decimal_any (b : UInt8) (w : World) (hT : HasT w) :
    Calls Tryd.prog 28 #[B8 b] w fun e w' => e = .returned (S9 (decL b)) ∧ Below w.heap.size w w' := by
  have hb := UInt8.toNat_lt b
  have hc := itoaS_strconv_Itoa (b.toNat : Int) (by omega) (by omega) w hT
  have hR : Lib.itoa (b.toNat : Int) = decL b := rfl
  rw [hR] at hc
  have hw : IntKind.i64.wrap (b.toNat : Int) = (b.toNat : Int) := by rw [IntWalk.i64_in _ (by omega)]
  have HC := Lib.hid hc
  clear hc hR
  go_enter Tryd.func28, Tryd.ntmps28
  go_wp2_with (go_at_call 34; refine HC.out.mono ?_; rintro e w1 ⟨rfl, k, os, rfl⟩; refine Hid.out ?_)
  have hb1 := below_grown w k os
  refine Lib.hid ?_
  go_wp2
  go_ret
  exact ⟨rfl, hb1⟩
/-- an address of four bytes as a text -/
def ipL (l : List UInt8) : List UInt8 := Lib.join (l.map decL) [46]
set_option maxRecDepth 20000 in
theorem ipText_any (l : List UInt8) (hl : l.length = 4) (w : World) (hT : HasT w) :
    Calls Tryd.prog 14 #[.agg (bs l)] w fun e w' => e = .returned (S9 (ipL l)) ∧ Below w.heap.size w w' := by
  have hb0 : Below w.heap.size w (w.alloc (.cells (bs l) 25)) := (Below.refl _ _).alloc (Nat.le_refl _) _
  have hT0 := hT.below hb0
  have hc := text_any 28 decL [46] w.heap.size 25 l 4 hl (by omega) (by decide) (w.alloc (.cells (bs l) 25)) (enters_of Tryd.func28 (by kernel_rfl) rfl) (fun b => by have := decL_length b; omega) (Has.fresh w _ _) (fun b W hW => decimal_any b W (hT0.below hW))
  have hR : Lib.join (l.map decL) [46] = ipL l := rfl
  rw [hR] at hc
  have HC := Lib.hid hc
  have HB := Lib.hid hb0
  have hsz : (bs l).size = 4 := by rw [bs_size, hl]
  clear hc hb0 hR
  go_enter Tryd.func14, Tryd.ntmps14
  go_wp2_with (go_at_call 27; refine HC.out.mono ?_; rintro e w1 ⟨rfl, hb1⟩)
  go_ret
  exact ⟨rfl, HB.out.trans (hb1.mono HB.out.size)⟩
end Go.Proofs.YtbeeebnocliaiaaDoor
