/- The law OctAdds: walked. -/
import Derived.Test.YtbeeebnocliaiaaOF
namespace Go.Proofs.Ytbeeebnocliaiaa
open Go.RowKit
theorem cat_toList (a b : ByteArray) : (a ++ b).data.toList = a.data.toList ++ b.data.toList := by rw [ByteArray.data_append, Array.toList_append]
set_option maxRecDepth 20000 in
set_option maxHeartbeats 2000000 in
theorem addsLaw_any (s t : ByteArray) (w : World) :
    Calls Try.prog 4 #[.string s, .string t] w fun e w' => e = .returned (.bool true) ∧ Below w.heap.size w w' := by
  have hse : (s ++ (⟨#[0]⟩ : ByteArray)).size = s.size + 1 := ByteArray.size_append
  have hte : (t ++ (⟨#[0]⟩ : ByteArray)).size = t.size + 1 := ByteArray.size_append
  by_cases hsz : s.size ≤ 1000
  · have t0 : decide ((1000 : Int) < (s.size : Int)) = false := by simp; omega
    by_cases htz : t.size ≤ 1000
    · have t1 : decide ((1000 : Int) < (t.size : Int)) = false := by simp; omega
      have hm := tmod2 s.size
      have hk := tmod2 t.size
      rcases Nat.mod_two_eq_zero_or_one s.size with hp | hp
      · rcases Nat.mod_two_eq_zero_or_one t.size with hq | hq
        · have e1 : s.size = s.size := by first | rfl | exact hse
          have e2 : t.size = t.size := by first | rfl | exact hte
          have hl1 : s.data.toList.length % 2 = 0 := by show s.size % 2 = 0; omega
          have hl2 : t.data.toList.length % 2 = 0 := by show t.size % 2 = 0; omega
          have hA := fun W => sum16_any s (by omega) W
          have hB := fun W => sum16_any t (by omega) W
          have hU := fun W => sum16_any (s ++ t) (by rw [ByteArray.size_append]; omega) W
          have hV := fun W => sum16_any (t ++ s) (by rw [ByteArray.size_append]; omega) W
          have hab := sum16_two s.data.toList t.data.toList hl1
          have hba := sum16_swap s.data.toList t.data.toList hl1 hl2
          rw [cat_toList, hab] at hU
          rw [cat_toList, hba, hab] at hV
          have ha := sum16_le s.data.toList
          have hb := sum16_le t.data.toList
          generalize sum16 s.data.toList = a at hA hU hV ha
          generalize sum16 t.data.toList = b at hB hU hV hb
          have hcA : ¬ (9223372036854775807 < s.size + t.size) := by omega
          have hcB : ¬ (9223372036854775807 < t.size + s.size) := by omega
          have hcS : ¬ (9223372036854775807 < s.size + 1) := by omega
          have hcT : ¬ (9223372036854775807 < t.size + 1) := by omega
          unfold join16 at hU hV
          rw [hp] at hm
          rw [hq] at hk
          clear hab hba hl1 hl2 e1 e2 hp hq hsz htz
          by_cases hbig : 65535 < (65535 - a) + (65535 - b)
          · rw [if_pos hbig] at hU hV
            obtain ⟨r, hr⟩ : ∃ r, (65535 - a) + (65535 - b) - 65535 = r := ⟨_, rfl⟩
            rw [hr] at hU hV
            obtain ⟨N, hNN⟩ : ∃ N, 65535 - a + (65535 - b) = N := ⟨_, rfl⟩
            obtain ⟨q, hqq⟩ : ∃ q, 65535 - r = q := ⟨_, rfl⟩
            rw [hNN] at hr hbig
            rw [hqq] at hU hV
            have hN : IntKind.i64.wrap ((65535 - (a : Int)) + (65535 - (b : Int))) = (N : Int) := by rw [IntWalk.i64_in _ (by omega)]; omega
            have hN2 : (65535 - (a : Int)) + (65535 - (b : Int)) = (N : Int) := by omega
            have t2 : decide ((65535 : Int) < (N : Int)) = true := by simp only [decide_eq_true_eq]; omega
            have hM : (N : Int) - 65535 = (r : Int) := by omega
            have hM2 : IntKind.i64.wrap ((N : Int) - 65535) = (r : Int) := by rw [hM, IntWalk.i64_in _ (by omega)]
            have hE : (65535 : Int) - (r : Int) = (q : Int) := by omega
            have hE2 : IntKind.i64.wrap ((65535 : Int) - (r : Int)) = (q : Int) := by rw [hE, IntWalk.i64_in _ (by omega)]
            have HNN := Lib.hid (And.intro hNN hqq)
            clear hNN hqq
            have HA := Lib.hid hA
            have HB := Lib.hid hB
            have HU := Lib.hid hU
            have HV := Lib.hid hV
            have HR := Lib.hid hr
            have HG := Lib.hid hbig
            clear hA hB hU hV hr hbig
            go_enter Try.func4, Try.ntmps4
            go_wp2_with fail
            refine (awake_any _).mono ?_
            rintro e w1 ⟨rfl, hb1⟩
            go_wp2_with fail
            refine (HA.out _).mono ?_
            rintro e w2 ⟨rfl, rfl⟩
            go_wp2_with fail
            refine (HB.out _).mono ?_
            rintro e w3 ⟨rfl, rfl⟩
            go_wp2_with fail
            refine (HU.out _).mono ?_
            rintro e w4 ⟨rfl, rfl⟩
            go_wp2_with fail
            refine (HV.out _).mono ?_
            rintro e w5 ⟨rfl, rfl⟩
            go_wp2_with fail
            refine (HU.out _).mono ?_
            rintro e w6 ⟨rfl, rfl⟩
            go_wp2_with fail
            go_ret
            exact ⟨rfl, hb1⟩
          · rw [if_neg hbig] at hU hV
            obtain ⟨r, hr⟩ : ∃ r, (65535 - a) + (65535 - b) = r := ⟨_, rfl⟩
            rw [hr] at hU hV
            obtain ⟨N, hNN⟩ : ∃ N, 65535 - a + (65535 - b) = N := ⟨_, rfl⟩
            obtain ⟨q, hqq⟩ : ∃ q, 65535 - r = q := ⟨_, rfl⟩
            rw [hNN] at hr hbig
            rw [hqq] at hU hV
            have hN : IntKind.i64.wrap ((65535 - (a : Int)) + (65535 - (b : Int))) = (N : Int) := by rw [IntWalk.i64_in _ (by omega)]; omega
            have hN2 : (65535 - (a : Int)) + (65535 - (b : Int)) = (N : Int) := by omega
            have t2 : decide ((65535 : Int) < (N : Int)) = false := by simp only [decide_eq_false_iff_not]; omega
            have hM : (N : Int) = (r : Int) := by omega
            rw [hM] at hN hN2 t2
            clear hM
            have hE : (65535 : Int) - (r : Int) = (q : Int) := by omega
            have hE2 : IntKind.i64.wrap ((65535 : Int) - (r : Int)) = (q : Int) := by rw [hE, IntWalk.i64_in _ (by omega)]
            have HNN := Lib.hid (And.intro hNN hqq)
            clear hNN hqq
            have HA := Lib.hid hA
            have HB := Lib.hid hB
            have HU := Lib.hid hU
            have HV := Lib.hid hV
            have HR := Lib.hid hr
            have HG := Lib.hid hbig
            clear hA hB hU hV hr hbig
            go_enter Try.func4, Try.ntmps4
            go_wp2_with fail
            refine (awake_any _).mono ?_
            rintro e w1 ⟨rfl, hb1⟩
            go_wp2_with fail
            refine (HA.out _).mono ?_
            rintro e w2 ⟨rfl, rfl⟩
            go_wp2_with fail
            refine (HB.out _).mono ?_
            rintro e w3 ⟨rfl, rfl⟩
            go_wp2_with fail
            refine (HU.out _).mono ?_
            rintro e w4 ⟨rfl, rfl⟩
            go_wp2_with fail
            refine (HV.out _).mono ?_
            rintro e w5 ⟨rfl, rfl⟩
            go_wp2_with fail
            refine (HU.out _).mono ?_
            rintro e w6 ⟨rfl, rfl⟩
            go_wp2_with fail
            go_ret
            exact ⟨rfl, hb1⟩
        · have e1 : s.size = s.size := by first | rfl | exact hse
          have e2 : (t ++ (⟨#[0]⟩ : ByteArray)).size = (t.size + 1) := by first | rfl | exact hte
          have hl1 : s.data.toList.length % 2 = 0 := by show s.size % 2 = 0; omega
          have hl2 : (t ++ (⟨#[0]⟩ : ByteArray)).data.toList.length % 2 = 0 := by show (t ++ (⟨#[0]⟩ : ByteArray)).size % 2 = 0; omega
          have hA := fun W => sum16_any s (by omega) W
          have hB := fun W => sum16_any (t ++ (⟨#[0]⟩ : ByteArray)) (by omega) W
          have hU := fun W => sum16_any (s ++ (t ++ (⟨#[0]⟩ : ByteArray))) (by rw [ByteArray.size_append]; omega) W
          have hV := fun W => sum16_any ((t ++ (⟨#[0]⟩ : ByteArray)) ++ s) (by rw [ByteArray.size_append]; omega) W
          have hab := sum16_two s.data.toList (t ++ (⟨#[0]⟩ : ByteArray)).data.toList hl1
          have hba := sum16_swap s.data.toList (t ++ (⟨#[0]⟩ : ByteArray)).data.toList hl1 hl2
          rw [cat_toList, hab] at hU
          rw [cat_toList, hba, hab] at hV
          have ha := sum16_le s.data.toList
          have hb := sum16_le (t ++ (⟨#[0]⟩ : ByteArray)).data.toList
          generalize sum16 s.data.toList = a at hA hU hV ha
          generalize sum16 (t ++ (⟨#[0]⟩ : ByteArray)).data.toList = b at hB hU hV hb
          have hcA : ¬ (9223372036854775807 < s.size + (t.size + 1)) := by omega
          have hcB : ¬ (9223372036854775807 < (t.size + 1) + s.size) := by omega
          have hcS : ¬ (9223372036854775807 < s.size + 1) := by omega
          have hcT : ¬ (9223372036854775807 < t.size + 1) := by omega
          unfold join16 at hU hV
          rw [hp] at hm
          rw [hq] at hk
          clear hab hba hl1 hl2 e1 e2 hp hq hsz htz
          by_cases hbig : 65535 < (65535 - a) + (65535 - b)
          · rw [if_pos hbig] at hU hV
            obtain ⟨r, hr⟩ : ∃ r, (65535 - a) + (65535 - b) - 65535 = r := ⟨_, rfl⟩
            rw [hr] at hU hV
            obtain ⟨N, hNN⟩ : ∃ N, 65535 - a + (65535 - b) = N := ⟨_, rfl⟩
            obtain ⟨q, hqq⟩ : ∃ q, 65535 - r = q := ⟨_, rfl⟩
            rw [hNN] at hr hbig
            rw [hqq] at hU hV
            have hN : IntKind.i64.wrap ((65535 - (a : Int)) + (65535 - (b : Int))) = (N : Int) := by rw [IntWalk.i64_in _ (by omega)]; omega
            have hN2 : (65535 - (a : Int)) + (65535 - (b : Int)) = (N : Int) := by omega
            have t2 : decide ((65535 : Int) < (N : Int)) = true := by simp only [decide_eq_true_eq]; omega
            have hM : (N : Int) - 65535 = (r : Int) := by omega
            have hM2 : IntKind.i64.wrap ((N : Int) - 65535) = (r : Int) := by rw [hM, IntWalk.i64_in _ (by omega)]
            have hE : (65535 : Int) - (r : Int) = (q : Int) := by omega
            have hE2 : IntKind.i64.wrap ((65535 : Int) - (r : Int)) = (q : Int) := by rw [hE, IntWalk.i64_in _ (by omega)]
            have HNN := Lib.hid (And.intro hNN hqq)
            clear hNN hqq
            have HA := Lib.hid hA
            have HB := Lib.hid hB
            have HU := Lib.hid hU
            have HV := Lib.hid hV
            have HR := Lib.hid hr
            have HG := Lib.hid hbig
            clear hA hB hU hV hr hbig
            go_enter Try.func4, Try.ntmps4
            go_wp2_with fail
            refine (awake_any _).mono ?_
            rintro e w1 ⟨rfl, hb1⟩
            go_wp2_with fail
            refine (HA.out _).mono ?_
            rintro e w2 ⟨rfl, rfl⟩
            go_wp2_with fail
            refine (HB.out _).mono ?_
            rintro e w3 ⟨rfl, rfl⟩
            go_wp2_with fail
            refine (HU.out _).mono ?_
            rintro e w4 ⟨rfl, rfl⟩
            go_wp2_with fail
            refine (HV.out _).mono ?_
            rintro e w5 ⟨rfl, rfl⟩
            go_wp2_with fail
            refine (HU.out _).mono ?_
            rintro e w6 ⟨rfl, rfl⟩
            go_wp2_with fail
            go_ret
            exact ⟨rfl, hb1⟩
          · rw [if_neg hbig] at hU hV
            obtain ⟨r, hr⟩ : ∃ r, (65535 - a) + (65535 - b) = r := ⟨_, rfl⟩
            rw [hr] at hU hV
            obtain ⟨N, hNN⟩ : ∃ N, 65535 - a + (65535 - b) = N := ⟨_, rfl⟩
            obtain ⟨q, hqq⟩ : ∃ q, 65535 - r = q := ⟨_, rfl⟩
            rw [hNN] at hr hbig
            rw [hqq] at hU hV
            have hN : IntKind.i64.wrap ((65535 - (a : Int)) + (65535 - (b : Int))) = (N : Int) := by rw [IntWalk.i64_in _ (by omega)]; omega
            have hN2 : (65535 - (a : Int)) + (65535 - (b : Int)) = (N : Int) := by omega
            have t2 : decide ((65535 : Int) < (N : Int)) = false := by simp only [decide_eq_false_iff_not]; omega
            have hM : (N : Int) = (r : Int) := by omega
            rw [hM] at hN hN2 t2
            clear hM
            have hE : (65535 : Int) - (r : Int) = (q : Int) := by omega
            have hE2 : IntKind.i64.wrap ((65535 : Int) - (r : Int)) = (q : Int) := by rw [hE, IntWalk.i64_in _ (by omega)]
            have HNN := Lib.hid (And.intro hNN hqq)
            clear hNN hqq
            have HA := Lib.hid hA
            have HB := Lib.hid hB
            have HU := Lib.hid hU
            have HV := Lib.hid hV
            have HR := Lib.hid hr
            have HG := Lib.hid hbig
            clear hA hB hU hV hr hbig
            go_enter Try.func4, Try.ntmps4
            go_wp2_with fail
            refine (awake_any _).mono ?_
            rintro e w1 ⟨rfl, hb1⟩
            go_wp2_with fail
            refine (HA.out _).mono ?_
            rintro e w2 ⟨rfl, rfl⟩
            go_wp2_with fail
            refine (HB.out _).mono ?_
            rintro e w3 ⟨rfl, rfl⟩
            go_wp2_with fail
            refine (HU.out _).mono ?_
            rintro e w4 ⟨rfl, rfl⟩
            go_wp2_with fail
            refine (HV.out _).mono ?_
            rintro e w5 ⟨rfl, rfl⟩
            go_wp2_with fail
            refine (HU.out _).mono ?_
            rintro e w6 ⟨rfl, rfl⟩
            go_wp2_with fail
            go_ret
            exact ⟨rfl, hb1⟩
      · rcases Nat.mod_two_eq_zero_or_one t.size with hq | hq
        · have e1 : (s ++ (⟨#[0]⟩ : ByteArray)).size = (s.size + 1) := by first | rfl | exact hse
          have e2 : t.size = t.size := by first | rfl | exact hte
          have hl1 : (s ++ (⟨#[0]⟩ : ByteArray)).data.toList.length % 2 = 0 := by show (s ++ (⟨#[0]⟩ : ByteArray)).size % 2 = 0; omega
          have hl2 : t.data.toList.length % 2 = 0 := by show t.size % 2 = 0; omega
          have hA := fun W => sum16_any (s ++ (⟨#[0]⟩ : ByteArray)) (by omega) W
          have hB := fun W => sum16_any t (by omega) W
          have hU := fun W => sum16_any ((s ++ (⟨#[0]⟩ : ByteArray)) ++ t) (by rw [ByteArray.size_append]; omega) W
          have hV := fun W => sum16_any (t ++ (s ++ (⟨#[0]⟩ : ByteArray))) (by rw [ByteArray.size_append]; omega) W
          have hab := sum16_two (s ++ (⟨#[0]⟩ : ByteArray)).data.toList t.data.toList hl1
          have hba := sum16_swap (s ++ (⟨#[0]⟩ : ByteArray)).data.toList t.data.toList hl1 hl2
          rw [cat_toList, hab] at hU
          rw [cat_toList, hba, hab] at hV
          have ha := sum16_le (s ++ (⟨#[0]⟩ : ByteArray)).data.toList
          have hb := sum16_le t.data.toList
          generalize sum16 (s ++ (⟨#[0]⟩ : ByteArray)).data.toList = a at hA hU hV ha
          generalize sum16 t.data.toList = b at hB hU hV hb
          have hcA : ¬ (9223372036854775807 < (s.size + 1) + t.size) := by omega
          have hcB : ¬ (9223372036854775807 < t.size + (s.size + 1)) := by omega
          have hcS : ¬ (9223372036854775807 < s.size + 1) := by omega
          have hcT : ¬ (9223372036854775807 < t.size + 1) := by omega
          unfold join16 at hU hV
          rw [hp] at hm
          rw [hq] at hk
          clear hab hba hl1 hl2 e1 e2 hp hq hsz htz
          by_cases hbig : 65535 < (65535 - a) + (65535 - b)
          · rw [if_pos hbig] at hU hV
            obtain ⟨r, hr⟩ : ∃ r, (65535 - a) + (65535 - b) - 65535 = r := ⟨_, rfl⟩
            rw [hr] at hU hV
            obtain ⟨N, hNN⟩ : ∃ N, 65535 - a + (65535 - b) = N := ⟨_, rfl⟩
            obtain ⟨q, hqq⟩ : ∃ q, 65535 - r = q := ⟨_, rfl⟩
            rw [hNN] at hr hbig
            rw [hqq] at hU hV
            have hN : IntKind.i64.wrap ((65535 - (a : Int)) + (65535 - (b : Int))) = (N : Int) := by rw [IntWalk.i64_in _ (by omega)]; omega
            have hN2 : (65535 - (a : Int)) + (65535 - (b : Int)) = (N : Int) := by omega
            have t2 : decide ((65535 : Int) < (N : Int)) = true := by simp only [decide_eq_true_eq]; omega
            have hM : (N : Int) - 65535 = (r : Int) := by omega
            have hM2 : IntKind.i64.wrap ((N : Int) - 65535) = (r : Int) := by rw [hM, IntWalk.i64_in _ (by omega)]
            have hE : (65535 : Int) - (r : Int) = (q : Int) := by omega
            have hE2 : IntKind.i64.wrap ((65535 : Int) - (r : Int)) = (q : Int) := by rw [hE, IntWalk.i64_in _ (by omega)]
            have HNN := Lib.hid (And.intro hNN hqq)
            clear hNN hqq
            have HA := Lib.hid hA
            have HB := Lib.hid hB
            have HU := Lib.hid hU
            have HV := Lib.hid hV
            have HR := Lib.hid hr
            have HG := Lib.hid hbig
            clear hA hB hU hV hr hbig
            go_enter Try.func4, Try.ntmps4
            go_wp2_with fail
            refine (awake_any _).mono ?_
            rintro e w1 ⟨rfl, hb1⟩
            go_wp2_with fail
            refine (HA.out _).mono ?_
            rintro e w2 ⟨rfl, rfl⟩
            go_wp2_with fail
            refine (HB.out _).mono ?_
            rintro e w3 ⟨rfl, rfl⟩
            go_wp2_with fail
            refine (HU.out _).mono ?_
            rintro e w4 ⟨rfl, rfl⟩
            go_wp2_with fail
            refine (HV.out _).mono ?_
            rintro e w5 ⟨rfl, rfl⟩
            go_wp2_with fail
            refine (HU.out _).mono ?_
            rintro e w6 ⟨rfl, rfl⟩
            go_wp2_with fail
            go_ret
            exact ⟨rfl, hb1⟩
          · rw [if_neg hbig] at hU hV
            obtain ⟨r, hr⟩ : ∃ r, (65535 - a) + (65535 - b) = r := ⟨_, rfl⟩
            rw [hr] at hU hV
            obtain ⟨N, hNN⟩ : ∃ N, 65535 - a + (65535 - b) = N := ⟨_, rfl⟩
            obtain ⟨q, hqq⟩ : ∃ q, 65535 - r = q := ⟨_, rfl⟩
            rw [hNN] at hr hbig
            rw [hqq] at hU hV
            have hN : IntKind.i64.wrap ((65535 - (a : Int)) + (65535 - (b : Int))) = (N : Int) := by rw [IntWalk.i64_in _ (by omega)]; omega
            have hN2 : (65535 - (a : Int)) + (65535 - (b : Int)) = (N : Int) := by omega
            have t2 : decide ((65535 : Int) < (N : Int)) = false := by simp only [decide_eq_false_iff_not]; omega
            have hM : (N : Int) = (r : Int) := by omega
            rw [hM] at hN hN2 t2
            clear hM
            have hE : (65535 : Int) - (r : Int) = (q : Int) := by omega
            have hE2 : IntKind.i64.wrap ((65535 : Int) - (r : Int)) = (q : Int) := by rw [hE, IntWalk.i64_in _ (by omega)]
            have HNN := Lib.hid (And.intro hNN hqq)
            clear hNN hqq
            have HA := Lib.hid hA
            have HB := Lib.hid hB
            have HU := Lib.hid hU
            have HV := Lib.hid hV
            have HR := Lib.hid hr
            have HG := Lib.hid hbig
            clear hA hB hU hV hr hbig
            go_enter Try.func4, Try.ntmps4
            go_wp2_with fail
            refine (awake_any _).mono ?_
            rintro e w1 ⟨rfl, hb1⟩
            go_wp2_with fail
            refine (HA.out _).mono ?_
            rintro e w2 ⟨rfl, rfl⟩
            go_wp2_with fail
            refine (HB.out _).mono ?_
            rintro e w3 ⟨rfl, rfl⟩
            go_wp2_with fail
            refine (HU.out _).mono ?_
            rintro e w4 ⟨rfl, rfl⟩
            go_wp2_with fail
            refine (HV.out _).mono ?_
            rintro e w5 ⟨rfl, rfl⟩
            go_wp2_with fail
            refine (HU.out _).mono ?_
            rintro e w6 ⟨rfl, rfl⟩
            go_wp2_with fail
            go_ret
            exact ⟨rfl, hb1⟩
        · have e1 : (s ++ (⟨#[0]⟩ : ByteArray)).size = (s.size + 1) := by first | rfl | exact hse
          have e2 : (t ++ (⟨#[0]⟩ : ByteArray)).size = (t.size + 1) := by first | rfl | exact hte
          have hl1 : (s ++ (⟨#[0]⟩ : ByteArray)).data.toList.length % 2 = 0 := by show (s ++ (⟨#[0]⟩ : ByteArray)).size % 2 = 0; omega
          have hl2 : (t ++ (⟨#[0]⟩ : ByteArray)).data.toList.length % 2 = 0 := by show (t ++ (⟨#[0]⟩ : ByteArray)).size % 2 = 0; omega
          have hA := fun W => sum16_any (s ++ (⟨#[0]⟩ : ByteArray)) (by omega) W
          have hB := fun W => sum16_any (t ++ (⟨#[0]⟩ : ByteArray)) (by omega) W
          have hU := fun W => sum16_any ((s ++ (⟨#[0]⟩ : ByteArray)) ++ (t ++ (⟨#[0]⟩ : ByteArray))) (by rw [ByteArray.size_append]; omega) W
          have hV := fun W => sum16_any ((t ++ (⟨#[0]⟩ : ByteArray)) ++ (s ++ (⟨#[0]⟩ : ByteArray))) (by rw [ByteArray.size_append]; omega) W
          have hab := sum16_two (s ++ (⟨#[0]⟩ : ByteArray)).data.toList (t ++ (⟨#[0]⟩ : ByteArray)).data.toList hl1
          have hba := sum16_swap (s ++ (⟨#[0]⟩ : ByteArray)).data.toList (t ++ (⟨#[0]⟩ : ByteArray)).data.toList hl1 hl2
          rw [cat_toList, hab] at hU
          rw [cat_toList, hba, hab] at hV
          have ha := sum16_le (s ++ (⟨#[0]⟩ : ByteArray)).data.toList
          have hb := sum16_le (t ++ (⟨#[0]⟩ : ByteArray)).data.toList
          generalize sum16 (s ++ (⟨#[0]⟩ : ByteArray)).data.toList = a at hA hU hV ha
          generalize sum16 (t ++ (⟨#[0]⟩ : ByteArray)).data.toList = b at hB hU hV hb
          have hcA : ¬ (9223372036854775807 < (s.size + 1) + (t.size + 1)) := by omega
          have hcB : ¬ (9223372036854775807 < (t.size + 1) + (s.size + 1)) := by omega
          have hcS : ¬ (9223372036854775807 < s.size + 1) := by omega
          have hcT : ¬ (9223372036854775807 < t.size + 1) := by omega
          unfold join16 at hU hV
          rw [hp] at hm
          rw [hq] at hk
          clear hab hba hl1 hl2 e1 e2 hp hq hsz htz
          by_cases hbig : 65535 < (65535 - a) + (65535 - b)
          · rw [if_pos hbig] at hU hV
            obtain ⟨r, hr⟩ : ∃ r, (65535 - a) + (65535 - b) - 65535 = r := ⟨_, rfl⟩
            rw [hr] at hU hV
            obtain ⟨N, hNN⟩ : ∃ N, 65535 - a + (65535 - b) = N := ⟨_, rfl⟩
            obtain ⟨q, hqq⟩ : ∃ q, 65535 - r = q := ⟨_, rfl⟩
            rw [hNN] at hr hbig
            rw [hqq] at hU hV
            have hN : IntKind.i64.wrap ((65535 - (a : Int)) + (65535 - (b : Int))) = (N : Int) := by rw [IntWalk.i64_in _ (by omega)]; omega
            have hN2 : (65535 - (a : Int)) + (65535 - (b : Int)) = (N : Int) := by omega
            have t2 : decide ((65535 : Int) < (N : Int)) = true := by simp only [decide_eq_true_eq]; omega
            have hM : (N : Int) - 65535 = (r : Int) := by omega
            have hM2 : IntKind.i64.wrap ((N : Int) - 65535) = (r : Int) := by rw [hM, IntWalk.i64_in _ (by omega)]
            have hE : (65535 : Int) - (r : Int) = (q : Int) := by omega
            have hE2 : IntKind.i64.wrap ((65535 : Int) - (r : Int)) = (q : Int) := by rw [hE, IntWalk.i64_in _ (by omega)]
            have HNN := Lib.hid (And.intro hNN hqq)
            clear hNN hqq
            have HA := Lib.hid hA
            have HB := Lib.hid hB
            have HU := Lib.hid hU
            have HV := Lib.hid hV
            have HR := Lib.hid hr
            have HG := Lib.hid hbig
            clear hA hB hU hV hr hbig
            go_enter Try.func4, Try.ntmps4
            go_wp2_with fail
            refine (awake_any _).mono ?_
            rintro e w1 ⟨rfl, hb1⟩
            go_wp2_with fail
            refine (HA.out _).mono ?_
            rintro e w2 ⟨rfl, rfl⟩
            go_wp2_with fail
            refine (HB.out _).mono ?_
            rintro e w3 ⟨rfl, rfl⟩
            go_wp2_with fail
            refine (HU.out _).mono ?_
            rintro e w4 ⟨rfl, rfl⟩
            go_wp2_with fail
            refine (HV.out _).mono ?_
            rintro e w5 ⟨rfl, rfl⟩
            go_wp2_with fail
            refine (HU.out _).mono ?_
            rintro e w6 ⟨rfl, rfl⟩
            go_wp2_with fail
            go_ret
            exact ⟨rfl, hb1⟩
          · rw [if_neg hbig] at hU hV
            obtain ⟨r, hr⟩ : ∃ r, (65535 - a) + (65535 - b) = r := ⟨_, rfl⟩
            rw [hr] at hU hV
            obtain ⟨N, hNN⟩ : ∃ N, 65535 - a + (65535 - b) = N := ⟨_, rfl⟩
            obtain ⟨q, hqq⟩ : ∃ q, 65535 - r = q := ⟨_, rfl⟩
            rw [hNN] at hr hbig
            rw [hqq] at hU hV
            have hN : IntKind.i64.wrap ((65535 - (a : Int)) + (65535 - (b : Int))) = (N : Int) := by rw [IntWalk.i64_in _ (by omega)]; omega
            have hN2 : (65535 - (a : Int)) + (65535 - (b : Int)) = (N : Int) := by omega
            have t2 : decide ((65535 : Int) < (N : Int)) = false := by simp only [decide_eq_false_iff_not]; omega
            have hM : (N : Int) = (r : Int) := by omega
            rw [hM] at hN hN2 t2
            clear hM
            have hE : (65535 : Int) - (r : Int) = (q : Int) := by omega
            have hE2 : IntKind.i64.wrap ((65535 : Int) - (r : Int)) = (q : Int) := by rw [hE, IntWalk.i64_in _ (by omega)]
            have HNN := Lib.hid (And.intro hNN hqq)
            clear hNN hqq
            have HA := Lib.hid hA
            have HB := Lib.hid hB
            have HU := Lib.hid hU
            have HV := Lib.hid hV
            have HR := Lib.hid hr
            have HG := Lib.hid hbig
            clear hA hB hU hV hr hbig
            go_enter Try.func4, Try.ntmps4
            go_wp2_with fail
            refine (awake_any _).mono ?_
            rintro e w1 ⟨rfl, hb1⟩
            go_wp2_with fail
            refine (HA.out _).mono ?_
            rintro e w2 ⟨rfl, rfl⟩
            go_wp2_with fail
            refine (HB.out _).mono ?_
            rintro e w3 ⟨rfl, rfl⟩
            go_wp2_with fail
            refine (HU.out _).mono ?_
            rintro e w4 ⟨rfl, rfl⟩
            go_wp2_with fail
            refine (HV.out _).mono ?_
            rintro e w5 ⟨rfl, rfl⟩
            go_wp2_with fail
            refine (HU.out _).mono ?_
            rintro e w6 ⟨rfl, rfl⟩
            go_wp2_with fail
            go_ret
            exact ⟨rfl, hb1⟩
    · have t1 : decide ((1000 : Int) < (t.size : Int)) = true := by simp; omega
      go_enter Try.func4, Try.ntmps4
      go_wp2_with fail
      refine (awake_any _).mono ?_
      rintro e w1 ⟨rfl, hb1⟩
      go_wp2_with fail
      refine (awake_any _).mono ?_
      rintro e w2 ⟨rfl, hb2⟩
      go_wp2_with fail
      go_ret
      exact ⟨rfl, hb1.trans (hb2.mono hb1.size)⟩
  · have t0 : decide ((1000 : Int) < (s.size : Int)) = true := by simp; omega
    go_enter Try.func4, Try.ntmps4
    go_wp2_with fail
    refine (awake_any _).mono ?_
    rintro e w1 ⟨rfl, hb1⟩
    go_wp2_with fail
    refine (awake_any _).mono ?_
    rintro e w2 ⟨rfl, hb2⟩
    go_wp2_with fail
    go_ret
    exact ⟨rfl, hb1.trans (hb2.mono hb1.size)⟩
end Go.Proofs.Ytbeeebnocliaiaa
