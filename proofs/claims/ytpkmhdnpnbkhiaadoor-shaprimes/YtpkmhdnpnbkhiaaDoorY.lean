/- The walk of law ShaPrimes. -/
import Derived.Test.YtpkmhdnpnbkhiaaDoorX
import Derived.Test.YtpkmhdnpnbkhiaaDoorK
namespace Go.Proofs.YtpkmhdnpnbkhiaaDoor
open Go.RowKit
set_option maxHeartbeats 1000000 in
theorem primesLaw_any (n : Nat) (hn : n < 256) (w : World) (hK : HasK w) :
    Calls Tryd.prog 7 #[.int .u8 n] w fun e w' => e = .returned (.bool true) ∧ Below w.heap.size w w' := by
  obtain ⟨m, hm⟩ : ∃ m, m = n % 101 := ⟨_, rfl⟩
  have em : (n : Int) % 101 = (m : Int) := by omega
  have lm : m ≤ 100 := by omega
  clear hm
  have E : HasK w ∧ Below w.heap.size w w := ⟨hK, Below.refl _ _⟩
  have hll := primesL_length m lm
  have HLL := Lib.hid hll
  clear hll
  go_enter Tryd.func7, Tryd.ntmps7
  go_wp2_with fail
  have hk := E.1
  refine (awake_any _ hk).mono ?_
  rintro e wq ⟨rfl, hbq⟩
  replace E : HasK wq ∧ Below w.heap.size w wq := ⟨E.1.below E.1.lt hbq, E.2.trans (hbq.mono E.2.size)⟩
  go_wp2_with fail
  refine (primes_any m lm _).mono ?_
  rintro e wp ⟨a, cap, rfl, hil, hbp⟩
  replace E : HasK wp ∧ Below w.heap.size w wp := ⟨E.1.below E.1.lt hbp, E.2.trans (hbp.mono E.2.size)⟩
  have HIL := Lib.hid hil
  clear hil
  go_wp2
  go_loop [4, 5] (fun t x => ∃ k : Nat, k ≤ 540 ∧ (prF k).length ≤ m ∧ t = .int .i64 ((prF k).length : Int) ∧ x = .int .i64 ((k + 2 : Nat) : Int)) (fun _ x => 600 - (intOf x).toNat)
  case atStart => exact ⟨0, by omega, Nat.zero_le _, rfl, rfl⟩
  case round =>
    obtain ⟨k, hk540, hlm, rfl, rfl⟩ := hrel
    by_cases hlt : (prF k).length < m
    · have hk2 := prF_le k (by omega)
      obtain ⟨g, _, rfl, hcell⟩ := HIL.out (by intro h; have := HLL.out; rw [h] at this; simp at this; omega)
      have hcl := hcell (m - 1) (by have := HLL.out; omega)
      have hca := hcell (prF k).length (by have := HLL.out; omega)
      have hlast := next_ge k m (m - 1) hk540 lm (by omega) (by omega)
      have hlb := primesL_bounds m (m - 1) lm (by omega)
      have hab := primesL_bounds m (prF k).length lm hlt
      have hyes := next_is k m hk2 hlt
      have hnot := next_not k m hk2 lm hlt
      have hprev : ∀ i, i < (prF k).length → wp.cell? ⟨g, i, none⟩ = some (.int .i64 (((prF k).getD i 0 : Nat) : Int)) := fun i hi => by
        rw [hcell i (by have := HLL.out; omega), prev_is k m i hk540 hi (by omega)]
      have hbd := prF_bounds k
      have HPREV := Lib.hid hprev
      have HBD := Lib.hid hbd
      clear hcell hprev hbd
      generalize (primesL m).getD (m - 1) 0 = last at hcl hlast hlb
      generalize (primesL m).getD (prF k).length 0 = pa at hca hab hyes hnot
      have hsucc := prF_succ k
      generalize hq : divB (k + 2) (prF k) = q at hyes hnot hsucc
      generalize hLn : (prF k).length = L at hlm hlt hca HPREV ⊢
      have HLN := Lib.hid hLn
      have HQ := Lib.hid hq
      have HSU := Lib.hid hsucc
      have HYES := Lib.hid hyes
      have HNOT := Lib.hid hnot
      clear hLn hq hsucc hyes hnot
      have t1 : decide ((L : Int) < (m : Int)) = true := by simp; omega
      have t2 : decide ((k : Int) + 2 ≤ (last : Int)) = true := by simp; omega
      go_wp2
      go_loop [6, 7] (fun dv i => ∃ j : Nat, j ≤ L ∧ i = .int .i64 j ∧ dv = .bool (divB (k + 2) ((prF k).take j))) (fun _ i => L - (intOf i).toNat)
      case atStart => exact ⟨0, by omega, rfl, rfl⟩
      case round =>
        obtain ⟨j, hj, rfl, rfl⟩ := hrel
        by_cases hjl : j < L
        · have hcj := HPREV.out j hjl
          have hjl' : j < (prF k).length := by rw [HLN.out]; exact hjl
          have hdb := HBD.out ((prF k).getD j 0) (by rw [List.getD_eq_getElem?_getD, List.getElem?_eq_getElem hjl']; exact List.getElem_mem hjl')
          have hst := divB_take (k + 2) (prF k) j hjl'
          generalize (prF k).getD j 0 = d at hcj hdb hst
          obtain ⟨hd1, hd2⟩ := hdb
          clear hjl'
          generalize divB (k + 2) ((prF k).take j) = r at hst ⊢
          have t3 : decide ((j : Int) < (L : Int)) = true := by simp; omega
          cases r
          · simp only [Bool.false_or] at hst
            by_cases hz : (k + 2) % d = 0
            · have hzb : (((k : Int) + 2) % (d : Int) == 0) = true := by rw [show ((k : Int) + 2) = ((k + 2 : Nat) : Int) from by omega, ← Int.natCast_emod, hz]; rfl
              have hst2 : divB (k + 2) (List.take (j + 1) (prF k)) = true := by rw [hst]; simp [hz]
              have HST := Lib.hid hst2
              clear hst hst2
              go_wp2
              go_round
              case rel => exact ⟨j + 1, by omega, by go_num, by rw [HST.out]⟩
              case measure => simp [intOf]; omega
            · have hzb : (((k : Int) + 2) % (d : Int) == 0) = false := by rw [show ((k : Int) + 2) = ((k + 2 : Nat) : Int) from by omega, ← Int.natCast_emod, beq_eq_false_iff_ne]; intro h; exact hz (by omega)
              have hst2 : divB (k + 2) (List.take (j + 1) (prF k)) = false := by rw [hst]; simp [hz]
              have HST := Lib.hid hst2
              clear hst hst2
              go_wp2
              go_round
              case rel => exact ⟨j + 1, by omega, by go_num, by rw [HST.out]⟩
              case measure => simp [intOf]; omega
          · have hst2 : divB (k + 2) (List.take (j + 1) (prF k)) = true := by rw [hst]; simp
            have HST := Lib.hid hst2
            clear hst hst2
            go_wp2
            go_round
            case rel => exact ⟨j + 1, by omega, by go_num, by rw [HST.out]⟩
            case measure => simp [intOf]; omega
        · have hjL : j = L := by omega
          subst hjL
          have hall : divB (k + 2) ((prF k).take j) = q := by rw [List.take_of_length_le (by rw [HLN.out]; exact Nat.le_refl _)]; exact HQ.out
          rw [hall]
          clear hall hj
          have t3 : decide ((j : Int) < (j : Int)) = false := by simp
          cases q
          · have hpa := HYES.out rfl
            have t4 : ((pa : Int) == (k : Int) + 2) = true := by simp; omega
            have hL1 : (prF (k + 1)).length = j + 1 := by rw [HSU.out]; simp [HLN.out]
            have HL1 := Lib.hid hL1
            clear hpa hL1
            go_wp2
            exact ⟨⟨u2, .int .i64 ((j : Int) + 1), .int .i64 ((k : Int) + 2 + 1), ⟨k + 1, by omega, by rw [HL1.out]; omega, by rw [HL1.out]; go_num, by go_num⟩, rfl, rfl, rfl⟩, by simp [intOf]; omega⟩
          · have hpa := HNOT.out rfl
            have t4 : ((pa : Int) == (k : Int) + 2) = false := by simp; omega
            have hL1 : (prF (k + 1)).length = j := by rw [HSU.out]; simp [HLN.out]
            have HL1 := Lib.hid hL1
            clear hpa hL1
            go_wp2
            exact ⟨⟨u2, .int .i64 (j : Int), .int .i64 ((k : Int) + 2 + 1), ⟨k + 1, by omega, by rw [HL1.out]; omega, by rw [HL1.out], by go_num⟩, rfl, rfl, rfl⟩, by simp [intOf]; omega⟩
    · have hLm : (prF k).length = m := by omega
      rw [hLm]
      have t1 : decide ((m : Int) < (m : Int)) = false := by simp
      go_wp2
      go_ret
      exact ⟨by simp, E.2⟩
end Go.Proofs.YtpkmhdnpnbkhiaaDoor
