/- aead.number, aead.filling: walked. -/
import Derived.Test.YtfhjokbbaoldiaaPH
import Derived.Test.YtfhjokbbaoldiaaBV
import Derived.Test.YtfhjokbbaoldiaaSH
namespace Go.Proofs.Ytfhjokbbaoldiaa
open Go.RowKit
def zb8 : Array Value := bs (List.replicate 8 0)
set_option maxRecDepth 20000 in
set_option maxHeartbeats 1000000 in
theorem number5_any (n : Nat) (w : World) :
    Calls Try.prog 20 #[.int .u64 (n : Int)] w fun e w' => e = .returned (.string ⟨(lowB n 8).toArray⟩) ∧ Below w.heap.size w w' := by
  have hi : Has (w.alloc (.cells zb8 56)) w.heap.size 56 zb8 := Has.fresh w 56 zb8
  have hb0 : Below w.heap.size w (w.alloc (.cells zb8 56)) := (Below.refl _ _).alloc (Nat.le_refl _) _
  have hby : ∀ j, j < 8 → n / 2 ^ (8 * j) % 256 = ((lowB n 8).getD j 0).toNat := fun j hj => by
    rw [lowB_getD n 8 j hj, UInt8.toNat_ofNat', Nat.mod_eq_of_lt (Nat.mod_lt _ (by omega)), Nat.pow_mul]
  have hll := lowB_length n 8
  generalize lowB n 8 = R at hby hll ⊢
  have HBY := Lib.hid hby
  have HLL := Lib.hid hll
  clear hby hll
  go_enter Try.func20, Try.ntmps20
  go_upto_region 2 with fail
  change Code.wp _ _ _ _ (w.alloc (.cells zb8 56))
  generalize w.alloc (.cells zb8 56) = w0 at hi hb0 ⊢
  go_wp2
  go_loopw [5] (fun i wr => ∃ (j : Nat), j ≤ 8 ∧ i = .int .i64 (j : Int) ∧ Has wr w.heap.size 56 (bs (R.take j ++ List.replicate (8 - j) 0)) ∧ Below w.heap.size w wr) (fun i _ => 8 - (intOf i).toNat)
  case atStart => exact ⟨0, by omega, rfl, hi, hb0⟩
  case round =>
    clear hi hb0 w0
    obtain ⟨j, hj, rfl, i3, hb⟩ := hrel
    by_cases hlt : j < 8
    · have t1 : decide ((j : Int) < 8) = true := by simp; omega
      have hj16 : ¬ ((8 : Int) ≤ (j : Int)) := by omega
      have hby := shr_byte n j
      rw [HBY.out j hlt] at hby
      have c3 := i3.byte j (by rw [padB_length R 8 j (by rw [HLL.out]; omega) (by omega)]; omega)
      have f3 := i3.frozen j
      have j3 := i3.setB j (R.getD j 0)
      rw [padB_set R 8 j (by rw [HLL.out]; omega) (by omega)] at j3
      have jb := hb.setCell (p := ⟨w.heap.size, j, none⟩) (Nat.le_refl _) (B8 (R.getD j 0))
      generalize R.getD j 0 = y at hby j3 jb
      generalize (List.take j R ++ List.replicate (8 - j) 0).getD j 0 = m at c3
      have HJ := Lib.hid (And.intro j3 jb)
      clear j3 jb i3 hb
      have hw8 : IntKind.i64.wrap (8 * (j : Int)) = 8 * (j : Int) := by rw [IntWalk.i64_in _ (by omega)]
      go_wp2
      go_roundw
      case rel => exact ⟨j + 1, by omega, by go_num, HJ.out⟩
      case measure => simp [intOf]; omega
    · have hj2 : j = 8 := by omega
      subst hj2
      rw [Nat.sub_self, List.replicate_zero, List.append_nil, List.take_of_length_le (by rw [HLL.out]; omega)] at i3
      have hcv := conv_bytes i3 8 8 HLL.out
      go_wp2
      go_ret
      exact ⟨rfl, hb⟩
/-- the zero bytes from a text's end up to a multiple of 16 -/
def padL (n : Nat) : List UInt8 := List.replicate ((16 - n % 16) % 16) 0
set_option maxRecDepth 20000 in
set_option maxHeartbeats 1000000 in
theorem filling_any (s : ByteArray) (w : World) :
    Calls Try.prog 41 #[.string s] w fun e w' => e = .returned (.string ⟨(padL s.size).toArray⟩) ∧ Below w.heap.size w w' := by
  obtain ⟨r, hr⟩ : ∃ r, s.size % 16 = r := ⟨_, rfl⟩
  have hm : (s.size : Int).tmod 16 = (r : Int) := by rw [← hr]; exact tmodN s.size 16
  have hm' : IntKind.i64.wrap (r : Int) = (r : Int) := by rw [IntWalk.i64_in _ (by omega)]
  by_cases h0 : r = 0
  · have hp : padL s.size = [] := by unfold padL; rw [hr, h0]; rfl
    have t1 : ((r : Int) == 0) = true := by simp [h0]
    have HP := Lib.hid hp
    clear hp h0 hr
    go_enter Try.func41, Try.ntmps41
    go_wp2
    go_ret
    exact ⟨by rw [HP.out]; rfl, Below.refl _ _⟩
  · have t1 : ((r : Int) == 0) = false := by simp [h0]
    obtain ⟨c, hc⟩ : ∃ c, 16 - r = c := ⟨_, rfl⟩
    have hp : padL s.size = Lib.repeatL [0] c := by
      have e1 : Lib.repeatL [0] c = List.replicate c 0 := by
        have := Lib.repeatL_replicate 0 1 c
        rw [Nat.mul_one] at this
        exact this
      unfold padL; rw [hr, e1, hc, Nat.mod_eq_of_lt (by omega)]
    have hw : IntKind.i64.wrap (16 - (r : Int)) = (c : Int) := by rw [IntWalk.i64_in _ (by omega)]; omega
    have hR := fun W : World => repeat_strings_Repeat ⟨#[0]⟩ c W (by omega) (by show 1 * c ≤ _; omega)
    have HP := Lib.hid hp
    have HR := Lib.hid hR
    clear hp h0 hr hc hR
    go_enter Try.func41, Try.ntmps41
    go_wp2_with (go_at_call 53; refine (HR.out _).mono ?_; rintro e w1 ⟨rfl, hb1⟩)
    go_ret
    exact ⟨by rw [HP.out]; rfl, hb1⟩
end Go.Proofs.Ytfhjokbbaoldiaa
