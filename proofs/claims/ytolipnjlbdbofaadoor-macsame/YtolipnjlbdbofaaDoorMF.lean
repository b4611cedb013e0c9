/- The walk of law MacSame. -/
import Derived.Test.YtolipnjlbdbofaaDoorME
namespace Go.Proofs.YtolipnjlbdbofaaDoor
open Go.RowKit
set_option maxHeartbeats 400000 in
theorem sameLaw_any (a b : ByteArray) (ha : a.size ≤ 9223372036854775807) (hb : b.size ≤ 9223372036854775807) (w : World) (hT : HasK w) :
    Calls Tryd.prog 6 #[.string a, .string b] w fun e w' => e = .returned (.bool true) ∧ Below w.heap.size w w' := by
  have S1 := Lib.hid (fun w => same_any a b w ha)
  have S2 := Lib.hid (fun w => same_any a a w ha)
  have S3 := Lib.hid (fun w => same_any b a w hb)
  have hq : (a.toList == b.toList) = decide (a = b) := same_lists a b
  have hc : decide (b = a) = decide (a = b) := by
    by_cases h : a = b
    · rw [decide_eq_true h, decide_eq_true h.symm]
    · rw [decide_eq_false h, decide_eq_false (fun h2 => h h2.symm)]
  rw [hc] at S3
  generalize decide (a = b) = q at S1 S3 hq
  have hself : decide (a = a) = true := by simp
  rw [hself] at S2
  clear hc hself
  have E : Below w.heap.size w w := Below.refl _ _
  go_enter Tryd.func6, Tryd.ntmps6
  go_wp2_with fail
  refine (awake2_any _ hT).mono ?_
  rintro e w1 ⟨rfl, hb1⟩
  replace E := E.trans (hb1.mono E.size)
  clear hb1
  go_wp2_with fail
  refine (S1.out _).mono ?_
  rintro e w2 ⟨rfl, hb1⟩
  replace E := E.trans (hb1.mono E.size)
  clear hb1 w1
  go_wp2_with fail
  refine (S2.out _).mono ?_
  rintro e w1 ⟨rfl, hb1⟩
  replace E := E.trans (hb1.mono E.size)
  clear hb1 w2
  go_wp2_with fail
  refine (S3.out _).mono ?_
  rintro e w2 ⟨rfl, hb1⟩
  replace E := E.trans (hb1.mono E.size)
  clear hb1 w1
  go_wp2_with fail
  refine (S1.out _).mono ?_
  rintro e w1 ⟨rfl, hb1⟩
  replace E := E.trans (hb1.mono E.size)
  clear hb1 w2
  go_wp2_with fail
  go_ret
  exact ⟨rfl, E⟩
end Go.Proofs.YtolipnjlbdbofaaDoor
