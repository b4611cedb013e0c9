/- causeyref01.Primes: walked. -/
import Derived.Test.YtolipnjlbdbofaaDoorXL
import Derived.Test.YtolipnjlbdbofaaDoorW
namespace Go.Proofs.YtolipnjlbdbofaaDoor
open Go.RowKit
theorem own_form {w : World} {base : Nat} {v : Value} {n : Nat} {xs : List Value} (h : w.ownsRow base 3 1 v n xs) : ∃ a cap, v = .slice a n cap := by
  rcases h.2 with ⟨rfl, rfl⟩ | ⟨g, cap, _, rfl, _⟩
  · exact ⟨_, _, rfl⟩
  · exact ⟨_, _, rfl⟩
theorem w64' (a : Nat) (h : a ≤ 1000000000) : wrap64 (a : Int) = (a : Int) := by
  unfold wrap64; omega
set_option maxHeartbeats 1000000 in
theorem refPrimes_any (m : Nat) (hm : m ≤ 100) (w : World) :
    Calls Tryd.prog 26 #[.int .i64 m] w fun e w' => ∃ a cap, e = .returned (.slice a m cap) ∧ IsList w' a (primesL m) ∧ Below w.heap.size w w' := by
  obtain ⟨i0, hi0, hz0, hz1, hz2⟩ := info_parts int_info
  go_enter Tryd.func26, Tryd.ntmps26
  go_wp2
  go_loopw [3, 4] (fun v c wr => ∃ (k : Nat) (a : Option Addr) (cap : Nat), k ≤ 540 ∧ (prF k).length ≤ m ∧ v = .slice a (prF k).length cap ∧ c = .int .i64 ((k + 2 : Nat) : Int) ∧ wr.ownsRow w.heap.size 3 1 (.slice a (prF k).length cap) (prF k).length (ns (prF k)) ∧ Below w.heap.size w wr) (fun _ c _ => 600 - (intOf c).toNat)
  case atStart => exact ⟨0, none, 0, by omega, Nat.zero_le _, rfl, rfl, World.ownsRow_nil _ _ _ _, Below.refl _ _⟩
  case round =>
    obtain ⟨k, a, cap, hk, hlm, rfl, rfl, hown, hbr⟩ := hrel
    by_cases hlt : (prF k).length < m
    · have hk2 := prF_le k (by omega)
      have hsucc := prF_succ k
      have hrd := rdF_is k
      generalize hq : divB (k + 2) (prF k) = q at hsucc hrd
      generalize hLn : (prF k).length = L at hlm hlt hown ⊢
      have HLN := Lib.hid hLn
      have HSU := Lib.hid hsucc
      have HRD := Lib.hid hrd
      clear hLn hsucc hrd hq
      have t0 : decide ((L : Int) < (m : Int)) = true := by simp; omega
      obtain ⟨X, hX⟩ : ∃ X, X = k + 2 := ⟨_, rfl⟩
      have hXb : 2 ≤ X ∧ X < 542 := by omega
      rw [← hX]
      rw [← hX] at HRD HSU
      have HX := Lib.hid hX
      clear hX
      go_wp2
      go_loop [5, 6] (fun dv d => ∃ j D : Nat, j ≤ 23 ∧ D = j + 2 ∧ (j = 0 ∨ (j + 1) * (j + 1) ≤ X) ∧ d = .int .i64 (D : Int) ∧ dv = .bool (rdF X j)) (fun _ d => 30 - (intOf d).toNat)
      case atStart => exact ⟨0, 2, by omega, rfl, Or.inl rfl, rfl, rfl⟩
      case round =>
        obtain ⟨j, D, hj, hD, hjk, rfl, rfl⟩ := hrel
        have hDb : 2 ≤ D ∧ D ≤ 25 := by omega
        have hS : D * D ≤ 625 := Nat.mul_le_mul hDb.2 hDb.2
        have w1 : wrap64 ((D : Int) * (D : Int)) = ((D * D : Nat) : Int) := by rw [← Int.natCast_mul]; exact w64' _ (by omega)
        have hexit := HRD.out j hk2
        rw [← hD] at hexit
        have hmono : D * D ≤ X → j + 1 ≤ 23 := fun h => by
          rcases Nat.lt_or_ge j 23 with h2 | h2
          · exact h2
          · have : 25 * 25 ≤ D * D := Nat.mul_le_mul (by omega) (by omega)
            omega
        have hnx : rdF X (j + 1) = (rdF X j || X % D == 0) := by rw [hD]; rfl
        have hjj : D * D = (j + 1 + 1) * (j + 1 + 1) := by rw [hD]
        generalize hSq : D * D = S at w1 hexit hmono hS hjj
        have HEX := Lib.hid hexit
        have HMO := Lib.hid hmono
        have HNX := Lib.hid hnx
        have HJJ := Lib.hid hjj
        have HJK := Lib.hid hjk
        have HDD := Lib.hid hD
        clear hexit hmono hnx hjj hSq hjk hD
        by_cases hle : S ≤ X
        · have t1 : decide ((S : Int) ≤ (X : Int)) = true := by simp; omega
          have hj1 := HMO.out hle
          by_cases hz : X % D = 0
          · have t2 : ((X : Int) % (D : Int) == 0) = true := by rw [← Int.natCast_emod, hz]; rfl
            have hr1 : rdF X (j + 1) = true := by rw [HNX.out, hz]; simp
            have HR1 := Lib.hid hr1
            clear hr1 hz
            go_wp2
            go_round
            case rel => exact ⟨j + 1, D + 1, hj1, by have := HDD.out; omega, Or.inr (by have := HJJ.out; omega), by go_num, by rw [HR1.out]⟩
            case measure => simp [intOf]; omega
          · have t2 : ((X : Int) % (D : Int) == 0) = false := by rw [← Int.natCast_emod, beq_eq_false_iff_ne]; intro h; exact hz (by omega)
            have hr1 : rdF X (j + 1) = rdF X j := by rw [HNX.out]; simp [hz]
            have HR1 := Lib.hid hr1
            clear hr1 hz
            generalize rdF X j = rj at HR1 HEX HNX ⊢
            go_wp2
            go_round
            case rel => exact ⟨j + 1, D + 1, hj1, by have := HDD.out; omega, Or.inr (by have := HJJ.out; omega), by go_num, by rw [HR1.out]⟩
            case measure => simp [intOf]; omega
        · have t1 : decide ((S : Int) ≤ (X : Int)) = false := by simp; omega
          have hq := HEX.out (by omega) HJK.out
          rw [hq]
          clear hq
          cases q
          · go_wp2_with (at_builtin; refine wpList_append_own _ rfl (.tmp 26) (.tmp 28) 53 rfl w.heap.size 3 i0 _ 1 8 Tryd.underlying53 hi0 hz0 hz1 hz2 rfl (by omega) (.slice a L cap) L (ns (prF k)) rfl (hown.alloc _) ⟨wr.heap.size, 0, none⟩ 1 1 [.int .i64 (X : Int)] rfl rfl (one_cell wr _ 3) (one_int _) (by unfold maxLen; omega) (by omega) (by simp; have := hbr.size; omega) ?_; intro v2 w2 hown2 hg2 _; obtain ⟨a2, cap2, hv2⟩ := own_form hown2; rw [hv2] at hown2 ⊢)
            have hL1 : (prF (k + 1)).length = L + 1 := by rw [HSU.out]; simp [HLN.out]
            have hns : ns (prF (k + 1)) = ns (prF k) ++ [.int .i64 (X : Int)] := by rw [HSU.out]; simp [ns]
            have hXk := HX.out
            go_roundw
            case rel =>
              refine ⟨k + 1, a2, cap2, by omega, by omega, by rw [hL1], by rw [hXk]; go_num, ?_, (hbr.alloc hbr.size _).grown hg2 (by simp; have := hbr.size; omega) (fun j hj => (hown.lt j hj).1)⟩
              rw [hL1, hns]
              exact hown2
            case measure => simp [intOf]; omega
          · have hL1 : prF (k + 1) = prF k := by rw [HSU.out]; simp
            have hXk := HX.out
            have HL1 := Lib.hid hL1
            have HXK := Lib.hid hXk
            clear hL1 hXk
            go_wp2
            go_roundw
            case rel =>
              refine ⟨k + 1, a, cap, by omega, by rw [HL1.out, HLN.out]; exact hlm, by rw [HL1.out, HLN.out], by rw [HXK.out]; go_num, ?_, hbr⟩
              rw [HL1.out, HLN.out]
              exact hown
            case measure => simp [intOf]; omega
    · have hLm : (prF k).length = m := by omega
      have hp := prF_take k hk
      rw [hLm] at hp hown ⊢
      have hil := (own_list hown).2
      rw [hp] at hil
      have HIL := Lib.hid hil
      have HOWN := Lib.hid hown
      clear hown hil hp hLm hlm hlt
      have t0 : decide ((m : Int) < (m : Int)) = false := by simp
      go_wp2
      go_ret
      exact ⟨_, _, rfl, HIL.out, hbr⟩
end Go.Proofs.YtolipnjlbdbofaaDoor
