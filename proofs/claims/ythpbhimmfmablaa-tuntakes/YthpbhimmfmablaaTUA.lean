/- tun's small functions: oneByte, printWord, readWord, Idle: walked. -/
import Derived.Test.YthpbhimmfmablaaON
import Derived.Test.YthpbhimmfmablaaVK
import Derived.Test.YthpbhimmfmablaaHM
namespace Go.Proofs.Ythpbhimmfmablaa
open Go.RowKit
/-- a number's lowest byte -/
def lowB1 (n : Int) : UInt8 := UInt8.ofNat (n % 256).toNat
theorem low_u8 (n : Int) : n % 256 = ((lowB1 n).toNat : Int) := by
  unfold lowB1
  rw [UInt8.toNat_ofNat']
  have := Int.emod_nonneg n (by omega : (256:Int) ≠ 0)
  omega
set_option maxRecDepth 20000 in
set_option maxHeartbeats 1000000 in
theorem oneByte_any (n : Int) (w : World) : Calls Try.prog 21 #[.int .i64 n] w fun e w' => e = .returned (.string ⟨[lowB1 n].toArray⟩) ∧ Below w.heap.size w w' := by
  have h8 := low_u8 n
  have hcv : ∀ W : World, (convert 60 9 (.slice (some ⟨W.heap.size, 0, none⟩) 1 1)).run Try.prog (W.alloc (.cells #[.int .u8 ((lowB1 n).toNat : Int)] 5)) = .ok (.string ⟨[lowB1 n].toArray⟩) (W.alloc (.cells #[.int .u8 ((lowB1 n).toNat : Int)] 5)) := fun W =>
    conv_bytes (l := [lowB1 n]) (Has.fresh W 5 #[B8 (lowB1 n)]) 1 1 rfl
  go_enter Try.func21, Try.ntmps21
  go_wp2
  go_ret
  exact ⟨rfl, (Below.refl _ _).alloc (Nat.le_refl _) _⟩
set_option maxRecDepth 20000 in
set_option maxHeartbeats 1000000 in
theorem printWord_any (n : Nat) (w : World) : Calls Try.prog 22 #[.int .u64 (n : Int)] w fun e w' => e = .returned (.string ⟨(beTail (n % 4294967296) 4).toArray⟩) ∧ Below w.heap.size w w' := by
  have hc := fun W => fourN (n % 4294967296) (Nat.mod_lt _ (by omega)) W
  have hw : ((n : Int) % 4294967296) = ((n % 4294967296 : Nat) : Int) := by omega
  generalize n % 4294967296 = m at hc hw ⊢
  have HC := Lib.hid hc
  clear hc
  go_enter Try.func22, Try.ntmps22
  go_wp2_with (go_at_call 30; refine (HC.out _).mono ?_; rintro e w1 ⟨rfl, hb⟩)
  go_ret
  exact ⟨rfl, hb⟩
theorem idle_any (w : World) : Calls Try.prog 17 #[] w fun e w' => e = .returned (.string ⟨#[0]⟩) ∧ w' = w := by
  go_enter Try.func17, Try.ntmps17
  go_wp2
  go_ret
  exact ⟨rfl, rfl⟩
set_option maxRecDepth 20000 in
set_option maxHeartbeats 1000000 in
theorem readWord_any (s : ByteArray) (hs : 4 ≤ s.size) (w : World) : Calls Try.prog 32 #[.string s] w fun e w' => e = .returned (.int .u64 (numP s.data.toList 4 : Int)) ∧ w' = w := by
  have h4 : (4 : Int) ≤ (s.size : Int) := by omega
  have hz : (s.extract 0 4).size = 4 := by rw [ByteArray.size_extract]; omega
  have hc := fun W => numberIn_any (s.extract 0 4) (by omega) W
  have e : numP (s.extract 0 4).data.toList 4 = numP s.data.toList 4 := by
    rw [extract_list]
    have : ∀ (l : List UInt8) (k : Nat), k ≤ 4 → numP (l.take 4) k = numP l k := fun l k => by
      induction k with
      | zero => intro _; rfl
      | succ k ih =>
        intro hk
        show numP (l.take 4) k * 256 + ((l.take 4).getD k 0).toNat = numP l k * 256 + (l.getD k 0).toNat
        rw [ih (by omega), List.getD_eq_getElem?_getD, List.getD_eq_getElem?_getD, List.getElem?_take_of_lt (by omega)]
    simpa using this s.data.toList 4 (Nat.le_refl _)
  rw [hz, e] at hc
  have hlt := numP_lt s.data.toList 4
  have hw : ((numP s.data.toList 4 : Nat) : Int) % 18446744073709551616 = (numP s.data.toList 4 : Int) := by
    have : (256 : Nat) ^ 4 = 4294967296 := rfl
    omega
  generalize numP s.data.toList 4 = N at hc hw hlt ⊢
  have HC := Lib.hid hc
  clear hc e hlt
  go_enter Try.func32, Try.ntmps32
  go_wp2_with (go_at_call 39; refine (HC.out _).mono ?_; rintro e w1 ⟨rfl, rfl⟩)
  go_ret
  exact ⟨rfl, rfl⟩
end Go.Proofs.Ythpbhimmfmablaa
