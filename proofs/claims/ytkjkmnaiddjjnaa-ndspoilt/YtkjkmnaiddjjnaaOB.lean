/- oct.Sum16: walked. -/
import Derived.Test.YtkjkmnaiddjjnaaBU
import Derived.Test.YtkjkmnaiddjjnaaOA
namespace Go.Proofs.Ytkjkmnaiddjjnaa
open Go.RowKit
theorem tmod2 (n : Nat) : (n : Int).tmod 2 = ((n % 2 : Nat) : Int) := by rw [Int.tmod_eq_emod_of_nonneg (by omega)]; omega
set_option maxRecDepth 20000 in
set_option maxHeartbeats 1000000 in
theorem sum16_any (s : ByteArray) (hs : s.size ≤ 1000000) (w : World) :
    Calls Try.prog 27 #[.string s] w fun e w' => e = .returned (.int .i64 (sum16 s.data.toList : Int)) ∧ w' = w := by
  have hlen : s.data.toList.length = s.size := rfl
  have hall : ∀ k, k = s.size → t16 s.data.toList k = sumL s.data.toList := fun k hk => by rw [hk]; rfl
  have hend : sum16 s.data.toList = 65535 - c16 (sumL s.data.toList) := rfl
  have hle := t16_le s.data.toList
  have hev := t16_even s.data.toList
  have hod := t16_odd s.data.toList
  have hbs : ∀ k, k < s.size → bAt s k = s.data.toList.getD k 0 := fun k _ => rfl
  generalize sum16 s.data.toList = R at hend ⊢
  generalize sumL s.data.toList = S at hall hend
  have ht0 : t16 s.data.toList 0 = 0 := rfl
  generalize t16 s.data.toList = T at hall hle hev hod ht0
  have HT0 := Lib.hid ht0
  have HA := Lib.hid hall
  have HE := Lib.hid hend
  have HV := Lib.hid hev
  have HO := Lib.hid hod
  have HL := Lib.hid hle
  clear hall hend hev hod hle hlen hbs ht0
  go_enter Try.func27, Try.ntmps27
  go_wp2
  go_loop [3, 7] (fun c i => ∃ k : Nat, k ≤ s.size ∧ c = .int .u64 (T k : Int) ∧ i = .int .i64 (k : Int)) (fun _ i => s.size - (intOf i).toNat)
  case atStart => exact ⟨0, by omega, by rw [HT0.out]; rfl, rfl⟩
  case round =>
    obtain ⟨k, hk, rfl, rfl⟩ := hrel
    by_cases hlt : k < s.size
    · have t1 : decide ((k : Int) < (s.size : Int)) = true := by simp; omega
      have h1 : (k : Int) < (s.size : Int) := by omega
      have h2 := tmod2 k
      have hTk := HL.out k
      have hb := UInt8.toNat_lt (bAt s k)
      rcases Nat.mod_two_eq_zero_or_one k with hp | hp
      · have t2 : (((k % 2 : Nat) : Int) == 0) = true := by rw [hp]; rfl
        have hw : IntKind.i64.wrap ((k % 2 : Nat) : Int) = ((k % 2 : Nat) : Int) := by rw [IntWalk.i64_in _ (by omega)]
        have hv := HV.out k hp
        generalize k % 2 = r at h2 t2 hw
        have HP := Lib.hid hp
        clear hp
        go_wp2
        refine ⟨⟨k + 1, by omega, ?_, by go_num⟩, by simp [intOf]; omega⟩
        have hbe : s.data.toList.getD k 0 = bAt s k := rfl
        have hx : IntKind.u64.wrap ((bAt s k).toNat : Int) = ((bAt s k).toNat : Int) := IntWalk.u64_in _ (by omega)
        have hy : IntKind.u64.wrap (((bAt s k).toNat : Int) * 256) = ((bAt s k).toNat : Int) * 256 := IntWalk.u64_in _ (by omega)
        rw [bAt_eq s k hlt, hv, hbe, hx, hy, IntWalk.u64_in _ (by omega)]
        simp
      · have t2 : (((k % 2 : Nat) : Int) == 0) = false := by rw [hp]; rfl
        have hw : IntKind.i64.wrap ((k % 2 : Nat) : Int) = ((k % 2 : Nat) : Int) := by rw [IntWalk.i64_in _ (by omega)]
        have hv := HO.out k hp
        generalize k % 2 = r at h2 t2 hw
        have HP := Lib.hid hp
        clear hp
        go_wp2
        refine ⟨⟨k + 1, by omega, ?_, by go_num⟩, by simp [intOf]; omega⟩
        have hbe : s.data.toList.getD k 0 = bAt s k := rfl
        have hx : IntKind.u64.wrap ((bAt s k).toNat : Int) = ((bAt s k).toNat : Int) := IntWalk.u64_in _ (by omega)
        rw [bAt_eq s k hlt, hv, hbe, hx, IntWalk.u64_in _ (by omega)]
        simp
    · have hk2 : k = s.size := by omega
      have hv := HA.out k hk2
      have hS := HL.out k
      rw [hv] at hS
      subst hk2
      rw [hv]
      have HB := Lib.hid hS
      have HE := HE.out
      have HEH := Lib.hid HE
      clear hv hS HA HV HO HL HT0 HE
      go_wp2
      go_loop [3] (fun c => ∃ n : Nat, n ≤ 65280 * s.size ∧ c16 n = c16 S ∧ c = .int .u64 (n : Int)) (fun c => (intOf c).toNat)
      case atStart => exact ⟨S, HB.out, rfl, rfl⟩
      case round =>
        obtain ⟨n, hn, hc, rfl⟩ := hrel
        have HC := Lib.hid hc
        clear hc
        by_cases hbig : 65535 < n
        · have t1 : decide ((65535 : Int) < (n : Int)) = true := by simp; omega
          have hand : bits .and .u64 (n : Int) 65535 = ((n % 65536 : Nat) : Int) := by
            have h := u64_and_nat n 65535 (by omega) (by omega)
            rw [show ((65535 : Nat) : Int) = 65535 from rfl] at h
            rw [h]
            have h2 := Nat.and_two_pow_sub_one_eq_mod n 16
            exact congrArg (fun x : Nat => (x : Int)) h2
          go_wp2
          refine ⟨⟨n / 65536 + n % 65536, by omega, by rw [c16_fold]; exact HC.out, ?_⟩, ?_⟩
          · simp
          · simp only [intOf]
            omega
        · have t1 : decide ((65535 : Int) < (n : Int)) = false := by simp; omega
          have hcn := HC.out
          rw [c16_small n (by omega)] at hcn
          have hR := HE.out
          have HR : R = 65535 - n := by rw [hR, hcn]
          have HR2 := Lib.hid HR
          clear hcn hR HR
          go_wp2
          go_ret
          refine ⟨?_, rfl⟩
          rw [HR2.out]
          apply congrArg (fun x : Int => Ending.returned (.int .i64 x))
          omega
end Go.Proofs.Ytkjkmnaiddjjnaa
