/- The document's Number, Bytes, Dec, Sum16, hex, and oct.Number of long texts, oct.Group: walked. -/
import Derived.Test.YtbeeebnocliaiaaDoorNA
import Derived.Test.YtbeeebnocliaiaaDoorOI
import Derived.Test.YtbeeebnocliaiaaDoorOB
import Derived.Test.YtbeeebnocliaiaaDoorHF
namespace Go.Proofs.YtbeeebnocliaiaaDoor
open Go.RowKit
set_option maxRecDepth 20000 in
theorem numberOut_any (s : ByteArray) (hs : 7 < s.size) (w : World) :
    Calls Tryd.prog 8 #[.string s] w fun e w' => e = .returned (.tuple #[.int .i64 0, .int .i64 1]) ∧ w' = w := by
  have t0 : decide ((7 : Int) < (s.size : Int)) = true := by simp; omega
  go_enter Tryd.func8, Tryd.ntmps8
  go_wp2
  go_ret2
  exact ⟨rfl, rfl⟩
set_option maxRecDepth 20000 in
set_option maxHeartbeats 1000000 in
theorem refNumber_any (s : ByteArray) (hs : s.size ≤ 7) (w : World) :
    Calls Tryd.prog 16 #[.string s] w fun e w' => e = .returned (.int .i64 (numP s.data.toList s.size : Int)) ∧ w' = w := by
  have hlt := numP_lt s.data.toList
  have hst : ∀ k, numP s.data.toList (k + 1) = numP s.data.toList k * 256 + (bAt s k).toNat := fun k => rfl
  have hz : numP s.data.toList 0 = 0 := rfl
  generalize numP s.data.toList = P at hlt hst hz ⊢
  have HL := Lib.hid hlt
  have HS := Lib.hid hst
  have HZ := Lib.hid hz
  clear hlt hst hz
  go_enter Tryd.func16, Tryd.ntmps16
  go_wp2
  go_loop [3, 4] (fun c i => ∃ k : Nat, k ≤ s.size ∧ c = .int .i64 (P k : Int) ∧ i = .int .i64 (k : Int)) (fun _ i => s.size - (intOf i).toNat)
  case atStart => exact ⟨0, by omega, by rw [HZ.out]; rfl, rfl⟩
  case round =>
    obtain ⟨k, hk, rfl, rfl⟩ := hrel
    have hP := HL.out k
    by_cases hlt : k < s.size
    · have t1 : decide ((k : Int) < (s.size : Int)) = true := by simp; omega
      have h1 : (k : Int) < (s.size : Int) := by omega
      have hp5 : 256 ^ k ≤ 256 ^ 6 := Nat.pow_le_pow_right (by omega) (by omega)
      have hs := HS.out k
      have hb := UInt8.toNat_lt (bAt s k)
      generalize 256 ^ k = q at hP hp5
      go_wp2
      refine ⟨⟨k + 1, by omega, ?_, by go_num⟩, by simp [intOf]; omega⟩
      have hx : wrap64 (((bAt s k).toNat : Nat) : Int) = ((bAt s k).toNat : Int) := IntWalk.wrap64_in _ (by omega)
      rw [bAt_eq s k hlt, hx, hs, IntWalk.wrap64_in _ (by omega)]
      congr 1
      omega
    · have hk2 : k = s.size := by omega
      subst hk2
      clear hP hlt
      go_wp2
      go_ret
      exact ⟨rfl, rfl⟩
/-- a digit's number in base 16 -/
def hexV (c : UInt8) : Int := if 48 ≤ c.toNat ∧ c.toNat ≤ 57 then (c.toNat : Int) - 48 else if 97 ≤ c.toNat ∧ c.toNat ≤ 102 then (c.toNat : Int) - 87 else -1
set_option maxRecDepth 20000 in
theorem hex_any (c : UInt8) (w : World) :
    Calls Tryd.prog 29 #[B8 c] w fun e w' => e = .returned (.int .i64 (hexV c)) ∧ w' = w := by
  have hc := UInt8.toNat_lt c
  unfold hexV
  have hw1 : wrap64 ((c.toNat : Int) - 48) = (c.toNat : Int) - 48 := IntWalk.wrap64_in _ (by omega)
  have hw2 : wrap64 ((c.toNat : Int) - 87) = (c.toNat : Int) - 87 := IntWalk.wrap64_in _ (by omega)
  have hw3 : wrap64 (c.toNat : Int) = (c.toNat : Int) := IntWalk.wrap64_in _ (by omega)
  have hx3 : IntKind.i64.wrap (c.toNat : Int) = (c.toNat : Int) := IntWalk.i64_in _ (by omega)
  have hx1 : IntKind.i64.wrap ((c.toNat : Int) - 48) = (c.toNat : Int) - 48 := IntWalk.i64_in _ (by omega)
  have hx2 : IntKind.i64.wrap ((c.toNat : Int) - 87) = (c.toNat : Int) - 87 := IntWalk.i64_in _ (by omega)
  by_cases h1 : 48 ≤ c.toNat ∧ c.toNat ≤ 57
  · rw [if_pos h1]
    have a1 : (48 : Int) ≤ (c.toNat : Int) := by omega
    have a2 : (c.toNat : Int) ≤ 57 := by omega
    go_enter Tryd.func29, Tryd.ntmps29
    go_wp2
    go_ret
    exact ⟨rfl, rfl⟩
  · rw [if_neg h1]
    by_cases h2 : 97 ≤ c.toNat ∧ c.toNat ≤ 102
    · rw [if_pos h2]
      have a1 : (97 : Int) ≤ (c.toNat : Int) := by omega
      have a2 : (c.toNat : Int) ≤ 102 := by omega
      have a3 : (57 : Int) < (c.toNat : Int) := by omega
      have a4 : (48 : Int) ≤ (c.toNat : Int) := by omega
      clear h1 h2
      go_enter Tryd.func29, Tryd.ntmps29
      go_wp2
      go_ret
      exact ⟨rfl, rfl⟩
    · rw [if_neg h2]
      rcases Nat.lt_or_ge c.toNat 48 with h48 | h48 <;> rcases Nat.lt_or_ge c.toNat 97 with h97 | h97
      · have a1 : (c.toNat : Int) < 48 := by omega
        have a2 : (c.toNat : Int) < 97 := by omega
        clear h1 h2
        go_enter Tryd.func29, Tryd.ntmps29
        go_wp2
        go_ret
        exact ⟨rfl, rfl⟩
      · omega
      · have a1 : (48 : Int) ≤ (c.toNat : Int) := by omega
        have a2 : (c.toNat : Int) < 97 := by omega
        have a3 : (57 : Int) < (c.toNat : Int) := by omega
        clear h1 h2
        go_enter Tryd.func29, Tryd.ntmps29
        go_wp2
        go_ret
        exact ⟨rfl, rfl⟩
      · have a1 : (48 : Int) ≤ (c.toNat : Int) := by omega
        have a2 : (97 : Int) ≤ (c.toNat : Int) := by omega
        have a3 : (57 : Int) < (c.toNat : Int) := by omega
        have a4 : (102 : Int) < (c.toNat : Int) := by omega
        clear h1 h2
        go_enter Tryd.func29, Tryd.ntmps29
        go_wp2
        go_ret
        exact ⟨rfl, rfl⟩
set_option maxRecDepth 20000 in
set_option maxHeartbeats 1000000 in
theorem group_any (a b c d e f : UInt8) (w : World) :
    Calls Tryd.prog 23 #[.agg #[B8 a, B8 b, B8 c, B8 d, B8 e, B8 f]] w fun r w' => r = .returned (.bool ((a.toNat : Int) % 2 == 1)) ∧ Below w.heap.size w w' := by
  have ha := UInt8.toNat_lt a
  have h := Has.fresh w 24 #[B8 a, B8 b, B8 c, B8 d, B8 e, B8 f]
  have hb0 : Below w.heap.size w (w.alloc (.cells #[B8 a, B8 b, B8 c, B8 d, B8 e, B8 f] 24)) := (Below.refl _ _).alloc (Nat.le_refl _) _
  have c0 := h.cell 0
  have hm : (a.toNat : Int).tmod 2 = (a.toNat : Int) % 2 := Int.tmod_eq_emod_of_nonneg (by omega)
  go_enter Tryd.func23, Tryd.ntmps23
  go_upto_region 1 with fail
  change Code.wp _ _ _ _ (w.alloc (.cells #[B8 a, B8 b, B8 c, B8 d, B8 e, B8 f] 24))
  generalize w.alloc (.cells #[B8 a, B8 b, B8 c, B8 d, B8 e, B8 f] 24) = w0 at c0 hb0 ⊢
  go_wp2
  go_ret
  exact ⟨rfl, hb0⟩
end Go.Proofs.YtbeeebnocliaiaaDoor
