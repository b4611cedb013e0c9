/- The law TunMixed: walked. -/
import Derived.Test.YthpbhimmfmablaaTZE
import Derived.Test.YthpbhimmfmablaaMP
namespace Go.Proofs.Ythpbhimmfmablaa
open Go.RowKit
theorem exec_neqS13 {P : Program} {o : Oper} {ev : Operand → Value} {w : World} (p q : Operand) (a b : ByteArray) (r : Bool) (hr : (a.data.toList == b.data.toList) = r) (ho : o.op = .binOp .neq 9 p q 9) (hp : ev p = .string a) (hq : ev q = .string b) : (execOp ev o).run P w = .ok (.value (.bool (!r))) w := by
  rw [← ByteArray.toList_eq, ← ByteArray.toList_eq] at hr
  unfold execOp
  simp only [ho, hp, hq]
  go_simp
/-- a slice of bools that may be read: its length, its places -/
def Bools (w : World) (a : Option Addr) (len : Nat) (B : Nat → Bool) : Prop := ∀ i, i < len → ∃ g off, a = some ⟨g, off, none⟩ ∧ g < w.heap.size ∧ w.cell? ⟨g, off + i, none⟩ = some (.bool (B i))
set_option maxRecDepth 20000 in
set_option maxHeartbeats 1000000 in
theorem mixed_e1 (n m : Nat) (s t : ByteArray) (a : Option Addr) (len cap : Nat) (h1 : 1536 < s.size) (w : World) : Calls Try.prog 7 #[.int .u32 (n : Int), .int .u32 (m : Int), .string s, .string t, .slice a len cap] w fun e w' => e = .returned (.bool true) ∧ Below w.heap.size w w' := by
  have AW := Lib.hid awake12_any
  have f1 : (1536 : Int) < (s.size : Int) := by omega
  go_enter Try.func7, Try.ntmps7
  go_wp2_with fail
  refine (AW.out _).mono ?_
  rintro e w1 ⟨rfl, hb1⟩
  have HB1 := Lib.hid hb1
  clear hb1
  go_wp2_with fail
  refine (AW.out _).mono ?_
  rintro e w2 ⟨rfl, hb2⟩
  have HB := Lib.hid (HB1.out.trans (hb2.mono HB1.out.size))
  clear hb2
  go_wp2
  go_ret
  exact ⟨rfl, HB.out⟩
set_option maxRecDepth 20000 in
set_option maxHeartbeats 1000000 in
theorem mixed_e2 (n m : Nat) (s t : ByteArray) (a : Option Addr) (len cap : Nat) (h1 : ¬ 1536 < s.size) (h2 : 1536 < t.size) (w : World) : Calls Try.prog 7 #[.int .u32 (n : Int), .int .u32 (m : Int), .string s, .string t, .slice a len cap] w fun e w' => e = .returned (.bool true) ∧ Below w.heap.size w w' := by
  have AW := Lib.hid awake12_any
  have f1 : ¬ (1536 : Int) < (s.size : Int) := by omega
  have f2 : (1536 : Int) < (t.size : Int) := by omega
  go_enter Try.func7, Try.ntmps7
  go_wp2_with fail
  refine (AW.out _).mono ?_
  rintro e w1 ⟨rfl, hb1⟩
  have HB1 := Lib.hid hb1
  clear hb1
  go_wp2_with fail
  refine (AW.out _).mono ?_
  rintro e w2 ⟨rfl, hb2⟩
  have HB := Lib.hid (HB1.out.trans (hb2.mono HB1.out.size))
  clear hb2
  go_wp2
  go_ret
  exact ⟨rfl, HB.out⟩
set_option maxRecDepth 20000 in
set_option maxHeartbeats 1000000 in
theorem mixed_e3 (n m : Nat) (s t : ByteArray) (a : Option Addr) (len cap : Nat) (h2 : ¬ 1536 < t.size) (h3 : s.size = 0) (w : World) : Calls Try.prog 7 #[.int .u32 (n : Int), .int .u32 (m : Int), .string s, .string t, .slice a len cap] w fun e w' => e = .returned (.bool true) ∧ Below w.heap.size w w' := by
  have AW := Lib.hid awake12_any
  have f1 : ¬ (1536 : Int) < (s.size : Int) := by omega
  have f2 : ¬ (1536 : Int) < (t.size : Int) := by omega
  have f3 : ((s.size : Int) == 0) = true := by rw [beq_iff_eq]; omega
  go_enter Try.func7, Try.ntmps7
  go_wp2_with fail
  refine (AW.out _).mono ?_
  rintro e w1 ⟨rfl, hb1⟩
  have HB1 := Lib.hid hb1
  clear hb1
  go_wp2_with fail
  refine (AW.out _).mono ?_
  rintro e w2 ⟨rfl, hb2⟩
  have HB := Lib.hid (HB1.out.trans (hb2.mono HB1.out.size))
  clear hb2
  go_wp2
  go_ret
  exact ⟨rfl, HB.out⟩
set_option maxRecDepth 20000 in
set_option maxHeartbeats 1000000 in
theorem mixed_e4 (n m : Nat) (s t : ByteArray) (a : Option Addr) (len cap : Nat) (h1 : ¬ 1536 < s.size) (h3 : ¬ s.size = 0) (h4 : t.size = 0) (w : World) : Calls Try.prog 7 #[.int .u32 (n : Int), .int .u32 (m : Int), .string s, .string t, .slice a len cap] w fun e w' => e = .returned (.bool true) ∧ Below w.heap.size w w' := by
  have AW := Lib.hid awake12_any
  have f1 : ¬ (1536 : Int) < (s.size : Int) := by omega
  have f2 : ¬ (1536 : Int) < (t.size : Int) := by omega
  have f3 : ((s.size : Int) == 0) = false := by rw [beq_eq_false_iff_ne]; omega
  have f4 : ((t.size : Int) == 0) = true := by rw [beq_iff_eq]; omega
  go_enter Try.func7, Try.ntmps7
  go_wp2_with fail
  refine (AW.out _).mono ?_
  rintro e w1 ⟨rfl, hb1⟩
  have HB1 := Lib.hid hb1
  clear hb1
  go_wp2_with fail
  refine (AW.out _).mono ?_
  rintro e w2 ⟨rfl, hb2⟩
  have HB := Lib.hid (HB1.out.trans (hb2.mono HB1.out.size))
  clear hb2
  go_wp2
  go_ret
  exact ⟨rfl, HB.out⟩
set_option maxRecDepth 20000 in
set_option maxHeartbeats 1000000 in
theorem mixed_e5 (n m : Nat) (s t : ByteArray) (a : Option Addr) (len cap : Nat) (h1 : ¬ 1536 < s.size) (h2 : ¬ 1536 < t.size) (h3 : ¬ s.size = 0) (h4 : ¬ t.size = 0) (h5 : n = m) (w : World) : Calls Try.prog 7 #[.int .u32 (n : Int), .int .u32 (m : Int), .string s, .string t, .slice a len cap] w fun e w' => e = .returned (.bool true) ∧ Below w.heap.size w w' := by
  have AW := Lib.hid awake12_any
  have f1 : ¬ (1536 : Int) < (s.size : Int) := by omega
  have f2 : ¬ (1536 : Int) < (t.size : Int) := by omega
  have f3 : ((s.size : Int) == 0) = false := by rw [beq_eq_false_iff_ne]; omega
  have f4 : ((t.size : Int) == 0) = false := by rw [beq_eq_false_iff_ne]; omega
  have f5 : ((n : Int) == (m : Int)) = true := by rw [beq_iff_eq]; omega
  go_enter Try.func7, Try.ntmps7
  go_wp2_with fail
  refine (AW.out _).mono ?_
  rintro e w1 ⟨rfl, hb1⟩
  have HB1 := Lib.hid hb1
  clear hb1
  go_wp2_with fail
  refine (AW.out _).mono ?_
  rintro e w2 ⟨rfl, hb2⟩
  have HB := Lib.hid (HB1.out.trans (hb2.mono HB1.out.size))
  clear hb2
  go_wp2
  go_ret
  exact ⟨rfl, HB.out⟩
set_option maxRecDepth 20000 in
set_option maxHeartbeats 1000000 in
theorem mixed_e6 (n m : Nat) (s t : ByteArray) (a : Option Addr) (len cap : Nat) (h1 : ¬ 1536 < s.size) (h2 : ¬ 1536 < t.size) (h3 : ¬ s.size = 0) (h4 : ¬ t.size = 0) (h5 : ¬ n = m) (h6 : 60 < len) (w : World) : Calls Try.prog 7 #[.int .u32 (n : Int), .int .u32 (m : Int), .string s, .string t, .slice a len cap] w fun e w' => e = .returned (.bool true) ∧ Below w.heap.size w w' := by
  have AW := Lib.hid awake12_any
  have f1 : ¬ (1536 : Int) < (s.size : Int) := by omega
  have f2 : ¬ (1536 : Int) < (t.size : Int) := by omega
  have f3 : ((s.size : Int) == 0) = false := by rw [beq_eq_false_iff_ne]; omega
  have f4 : ((t.size : Int) == 0) = false := by rw [beq_eq_false_iff_ne]; omega
  have f5 : ((n : Int) == (m : Int)) = false := by rw [beq_eq_false_iff_ne]; omega
  have f6 : (60 : Int) < (len : Int) := by omega
  go_enter Try.func7, Try.ntmps7
  go_wp2_with fail
  refine (AW.out _).mono ?_
  rintro e w1 ⟨rfl, hb1⟩
  have HB1 := Lib.hid hb1
  clear hb1
  go_wp2_with fail
  refine (AW.out _).mono ?_
  rintro e w2 ⟨rfl, hb2⟩
  have HB := Lib.hid (HB1.out.trans (hb2.mono HB1.out.size))
  clear hb2
  go_wp2
  go_ret
  exact ⟨rfl, HB.out⟩
end Go.Proofs.Ythpbhimmfmablaa
