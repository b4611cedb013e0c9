/- The walk of law AeadOnly. -/
import Derived.Test.YtfhjokbbaoldiaaYG
namespace Go.Proofs.Ytfhjokbbaoldiaa
open Go.RowKit
set_option maxRecDepth 20000 in
set_option maxHeartbeats 1000000 in
theorem only_over0 (k : List UInt8) (n : ByteArray) (b c : ByteArray)  (hb : 400 < b.size) (w : World) :
    Calls Try.prog 4 #[.agg (bs k), .string n, .string b, .string c] w fun e w' => e = .returned (.bool true) ∧ Below w.heap.size w w' := by
  have E := KEnv.fresh w k
  have HA := Lib.hid awake5_any
  have tb : decide (400 < (b.size : Int)) = true := by simp; omega
  go_enter Try.func4, Try.ntmps4
  go_upto_region 1 with fail
  generalize w.alloc (.cells (bs k) 23) = w0 at E ⊢
  go_wp2_with fail
  refine (HA.out _).mono ?_
  rintro e w1 ⟨rfl, hb1⟩
  replace E := E.step hb1
  go_wp2_with fail
  refine (HA.out _).mono ?_
  rintro e w2 ⟨rfl, hb2⟩
  replace E := E.step hb2
  go_wp2
  go_ret
  exact ⟨rfl, E.2⟩
set_option maxRecDepth 20000 in
set_option maxHeartbeats 1000000 in
theorem only_over1 (k : List UInt8) (n : ByteArray) (b c : ByteArray) (hb : b.size ≤ 400) (hc : 400 < c.size) (w : World) :
    Calls Try.prog 4 #[.agg (bs k), .string n, .string b, .string c] w fun e w' => e = .returned (.bool true) ∧ Below w.heap.size w w' := by
  have E := KEnv.fresh w k
  have HA := Lib.hid awake5_any
  have tb : decide (400 < (b.size : Int)) = false := by simp; omega
  have tc : decide (400 < (c.size : Int)) = true := by simp; omega
  go_enter Try.func4, Try.ntmps4
  go_upto_region 1 with fail
  generalize w.alloc (.cells (bs k) 23) = w0 at E ⊢
  go_wp2_with fail
  refine (HA.out _).mono ?_
  rintro e w1 ⟨rfl, hb1⟩
  replace E := E.step hb1
  go_wp2_with fail
  refine (HA.out _).mono ?_
  rintro e w2 ⟨rfl, hb2⟩
  replace E := E.step hb2
  go_wp2
  go_ret
  exact ⟨rfl, E.2⟩
set_option maxRecDepth 20000 in
set_option maxHeartbeats 1000000 in
theorem only_not (k : List UInt8) (hk : k.length = 32) (n b c : ByteArray) (hn : n.size ≠ 12) (hbs : b.size ≤ 400) (hcs : c.size ≤ 400) (w : World) :
    Calls Try.prog 4 #[.agg (bs k), .string n, .string b, .string c] w fun e w' => e = .returned (.bool true) ∧ Below w.heap.size w w' := by
  have h1 := open_not k n b c hn
  have h2 := seal_not k hk n b ⟨#[]⟩ hn
  have H1 := Lib.hid h1
  have H2 := Lib.hid h2
  have HK := Lib.hid hk
  clear h1 h2 hk
  have E := KEnv.fresh w k
  have HA := Lib.hid awake5_any
  have tb : decide (400 < (b.size : Int)) = false := by simp; omega
  have tc : decide (400 < (c.size : Int)) = false := by simp; omega
  have t12 : ((n.size : Int) != 12) = true := by simp; omega
  go_enter Try.func4, Try.ntmps4
  go_upto_region 1 with fail
  generalize w.alloc (.cells (bs k) 23) = w0 at E ⊢
  go_wp2_with fail
  refine (HA.out _).mono ?_
  rintro e w1 ⟨rfl, hb1⟩
  replace E := E.step hb1
  clear hb1
  go_upto_region 3 with fail
  go_wp2_with (refine wpList_load_row rfl 23 (.tmp 4) rfl w.heap.size rfl 23 (bs k) (0, 0) _ E.1 Try.underlying23 rfl (keyInfo k HK.out) ?_)
  refine (H1.out _).mono ?_
  rintro e w2 ⟨rfl, hb1⟩
  replace E := E.step hb1
  clear hb1
  go_wp2_with (refine wpList_load_row rfl 23 (.tmp 4) rfl w.heap.size rfl 23 (bs k) (0, 0) _ E.1 Try.underlying23 rfl (keyInfo k HK.out) ?_)
  refine (H2.out _).mono ?_
  rintro e w3 ⟨rfl, hb1⟩
  replace E := E.step hb1
  clear hb1
  go_wp2
  go_ret
  exact ⟨rfl, E.2⟩
set_option maxRecDepth 20000 in
set_option maxHeartbeats 1000000 in
theorem only_short (k : List UInt8) (hk : k.length = 32) (n b c : ByteArray) (hn : n.size = 12) (hc : c.size < 16) (hbs : b.size ≤ 400) (_hcs : c.size ≤ 400) (w : World) :
    Calls Try.prog 4 #[.agg (bs k), .string n, .string b, .string c] w fun e w' => e = .returned (.bool true) ∧ Below w.heap.size w w' := by
  have h1 := open_short k n b c hn hc
  have h2 := seal_any k hk n b ⟨#[]⟩ hn (by omega) (by decide)
  generalize sealL k n.data.toList b.data.toList (⟨#[]⟩ : ByteArray).data.toList = SS at h2
  have H1 := Lib.hid h1
  have H2 := Lib.hid h2
  have HK := Lib.hid hk
  clear h1 h2 hk
  have E := KEnv.fresh w k
  have HA := Lib.hid awake5_any
  have tb : decide (400 < (b.size : Int)) = false := by simp; omega
  have tc : decide (400 < (c.size : Int)) = false := by simp; omega
  have t12 : ((n.size : Int) != 12) = false := by simp; omega
  have t16 : decide ((c.size : Int) < 16) = true := by simp; omega
  go_enter Try.func4, Try.ntmps4
  go_upto_region 1 with fail
  generalize w.alloc (.cells (bs k) 23) = w0 at E ⊢
  go_wp2_with fail
  refine (HA.out _).mono ?_
  rintro e w1 ⟨rfl, hb1⟩
  replace E := E.step hb1
  clear hb1
  go_upto_region 3 with fail
  go_wp2_with (refine wpList_load_row rfl 23 (.tmp 4) rfl w.heap.size rfl 23 (bs k) (0, 0) _ E.1 Try.underlying23 rfl (keyInfo k HK.out) ?_)
  refine (H1.out _).mono ?_
  rintro e w2 ⟨rfl, hb1⟩
  replace E := E.step hb1
  clear hb1
  go_wp2_with (refine wpList_load_row rfl 23 (.tmp 4) rfl w.heap.size rfl 23 (bs k) (0, 0) _ E.1 Try.underlying23 rfl (keyInfo k HK.out) ?_)
  refine (H2.out _).mono ?_
  rintro e w3 ⟨rfl, hb1⟩
  replace E := E.step hb1
  clear hb1
  go_wp2
  go_ret
  exact ⟨rfl, E.2⟩
set_option maxRecDepth 20000 in
set_option maxHeartbeats 1000000 in
theorem only_bad (k : List UInt8) (hk : k.length = 32) (n b c : ByteArray) (hn : n.size = 12) (m : Nat) (hm : c.size = m + 16) (he : c.extract m (m + 16) ≠ ⟨(tagL k n.data.toList b.data.toList (c.extract 0 m).data.toList).toArray⟩) (hbs : b.size ≤ 400) (hcs : c.size ≤ 400) (w : World) :
    Calls Try.prog 4 #[.agg (bs k), .string n, .string b, .string c] w fun e w' => e = .returned (.bool true) ∧ Below w.heap.size w w' := by
  have h1 := open_bad k hk n b c hn (by omega) m hm (by omega) _ _ rfl rfl he
  have h2 := seal_any k hk n b ⟨#[]⟩ hn (by omega) (by decide)
  generalize sealL k n.data.toList b.data.toList (⟨#[]⟩ : ByteArray).data.toList = SS at h2
  have H1 := Lib.hid h1
  have H2 := Lib.hid h2
  have HK := Lib.hid hk
  clear h1 h2 hk
  have E := KEnv.fresh w k
  have HA := Lib.hid awake5_any
  have tb : decide (400 < (b.size : Int)) = false := by simp; omega
  have tc : decide (400 < (c.size : Int)) = false := by simp; omega
  have t12 : ((n.size : Int) != 12) = false := by simp; omega
  have t16 : decide ((16 : Int) ≤ (c.size : Int)) = true := by simp; omega
  clear hm he
  go_enter Try.func4, Try.ntmps4
  go_upto_region 1 with fail
  generalize w.alloc (.cells (bs k) 23) = w0 at E ⊢
  go_wp2_with fail
  refine (HA.out _).mono ?_
  rintro e w1 ⟨rfl, hb1⟩
  replace E := E.step hb1
  clear hb1
  go_upto_region 3 with fail
  go_wp2_with (refine wpList_load_row rfl 23 (.tmp 4) rfl w.heap.size rfl 23 (bs k) (0, 0) _ E.1 Try.underlying23 rfl (keyInfo k HK.out) ?_)
  refine (H1.out _).mono ?_
  rintro e w2 ⟨rfl, hb1⟩
  replace E := E.step hb1
  clear hb1
  go_wp2_with (refine wpList_load_row rfl 23 (.tmp 4) rfl w.heap.size rfl 23 (bs k) (0, 0) _ E.1 Try.underlying23 rfl (keyInfo k HK.out) ?_)
  refine (H2.out _).mono ?_
  rintro e w3 ⟨rfl, hb1⟩
  replace E := E.step hb1
  clear hb1
  go_wp2
  go_ret
  exact ⟨rfl, E.2⟩
set_option maxRecDepth 20000 in
set_option maxHeartbeats 1000000 in
theorem only_good (k : List UInt8) (hk : k.length = 32) (n b c : ByteArray) (hn : n.size = 12) (m : Nat) (hm : c.size = m + 16) (he : c.extract m (m + 16) = ⟨(tagL k n.data.toList b.data.toList (c.extract 0 m).data.toList).toArray⟩) (hbs : b.size ≤ 400) (hcs : c.size ≤ 400) (w : World) :
    Calls Try.prog 4 #[.agg (bs k), .string n, .string b, .string c] w fun e w' => e = .returned (.bool true) ∧ Below w.heap.size w w' := by
  have h1 := open_good k hk n b c hn (by omega) m hm (by omega) _ _ rfl rfl he
  have hl : (maskT k n.data.toList (c.extract 0 m).data.toList).length ≤ 400 := by rw [maskT_length, len_list, ByteArray.size_extract]; omega
  have h2 := seal_any k hk n b ⟨(maskT k n.data.toList (c.extract 0 m).data.toList).toArray⟩ hn (by omega) (by rw [str_size]; omega)
  have hS : (⟨(sealL k n.data.toList b.data.toList (maskT k n.data.toList (c.extract 0 m).data.toList)).toArray⟩ : ByteArray) = c := by
    apply ext_lists
    have e1 := congrArg (fun x : ByteArray => x.data.toList) he
    simp only at e1
    rw [str_list, sealL, maskT_twice, ← e1, extract_list, extract_list, List.drop_zero, Nat.sub_zero, Nat.add_sub_cancel_left, List.take_of_length_le (l := List.drop m c.data.toList) (by rw [List.length_drop, len_list]; omega), List.take_append_drop]
  rw [str_list, hS] at h2
  generalize (⟨(maskT k n.data.toList (c.extract 0 m).data.toList).toArray⟩ : ByteArray) = A at h1 h2
  clear hS hl
  have H1 := Lib.hid h1
  have H2 := Lib.hid h2
  have HK := Lib.hid hk
  clear h1 h2 hk
  have E := KEnv.fresh w k
  have HA := Lib.hid awake5_any
  have tb : decide (400 < (b.size : Int)) = false := by simp; omega
  have tc : decide (400 < (c.size : Int)) = false := by simp; omega
  have t12 : ((n.size : Int) != 12) = false := by simp; omega
  clear hm he
  go_enter Try.func4, Try.ntmps4
  go_upto_region 1 with fail
  generalize w.alloc (.cells (bs k) 23) = w0 at E ⊢
  go_wp2_with fail
  refine (HA.out _).mono ?_
  rintro e w1 ⟨rfl, hb1⟩
  replace E := E.step hb1
  clear hb1
  go_upto_region 3 with fail
  go_wp2_with (refine wpList_load_row rfl 23 (.tmp 4) rfl w.heap.size rfl 23 (bs k) (0, 0) _ E.1 Try.underlying23 rfl (keyInfo k HK.out) ?_)
  refine (H1.out _).mono ?_
  rintro e w2 ⟨rfl, hb1⟩
  replace E := E.step hb1
  clear hb1
  go_wp2_with (refine wpList_load_row rfl 23 (.tmp 4) rfl w.heap.size rfl 23 (bs k) (0, 0) _ E.1 Try.underlying23 rfl (keyInfo k HK.out) ?_)
  refine (H2.out _).mono ?_
  rintro e w3 ⟨rfl, hb1⟩
  replace E := E.step hb1
  clear hb1
  go_wp2
  go_ret
  exact ⟨rfl, E.2⟩
theorem onlyLaw_any (k : List UInt8) (hk : k.length = 32) (n b c : ByteArray) (w : World) :
    Calls Try.prog 4 #[.agg (bs k), .string n, .string b, .string c] w fun e w' => e = .returned (.bool true) ∧ Below w.heap.size w w' := by
  by_cases hb : 400 < b.size
  · exact only_over0 k n b c hb w
  · by_cases hs : 400 < c.size
    · exact only_over1 k n b c (by omega) hs w
    · by_cases hn : n.size = 12
      · by_cases h16 : c.size < 16
        · exact only_short k hk n b c hn h16 (by omega) (by omega) w
        · by_cases he : c.extract (c.size - 16) (c.size - 16 + 16) = ⟨(tagL k n.data.toList b.data.toList (c.extract 0 (c.size - 16)).data.toList).toArray⟩
          · exact only_good k hk n b c hn (c.size - 16) (by omega) he (by omega) (by omega) w
          · exact only_bad k hk n b c hn (c.size - 16) (by omega) he (by omega) (by omega) w
      · exact only_not k hk n b c hn (by omega) (by omega) w
end Go.Proofs.Ytfhjokbbaoldiaa
