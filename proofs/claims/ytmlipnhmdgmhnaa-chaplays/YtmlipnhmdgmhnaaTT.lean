/- The walk of law ChaPlays. -/
import Derived.Test.YtmlipnhmdgmhnaaTR
import Derived.Test.YtmlipnhmdgmhnaaTC
import Derived.OpenShut
namespace Go.Proofs.Ytmlipnhmdgmhnaa
open Go.RowKit
set_option maxHeartbeats 400000 in
theorem plays_over (k : List UInt8) (c : UInt32) (n s : ByteArray) (hs : 600 < s.size) (w : World) :
    Calls Try.prog 6 #[.agg (bs k), W32 c, .string n, .string s] w fun e w' => e = .returned (.bool true) ∧ Below w.heap.size w w' := by
  have hb : Below w.heap.size w (w.alloc (.cells (bs k) 23)) := (Below.refl _ _).alloc (Nat.le_refl _) _
  have t1 : decide (600 < (s.size : Int)) = true := by simp; omega
  go_enter Try.func6, Try.ntmps6
  go_wp2_with (go_at_call 8; refine (awake3_any _).mono ?_; rintro e wq ⟨rfl, rfl⟩)
  go_ret
  exact ⟨rfl, hb⟩
/-- what memory holds in the midst of the law -/
structure KE (w : World) (k : List UInt8) (W : World) : Prop where
  hk : Has W w.heap.size 23 (bs k)
  hb : Below w.heap.size w W
theorem KE.step {w : World} {k : List UInt8} {W W' : World} (h : KE w k W) (hb : Below W.heap.size W W') : KE w k W' := ⟨h.hk.below hb h.hk.lt, h.hb.trans (hb.mono h.hb.size)⟩
theorem KE.fresh (w : World) (k : List UInt8) : KE w k (w.alloc (.cells (bs k) 23)) := ⟨Has.fresh w 23 _, (Below.refl _ _).alloc (Nat.le_refl _) _⟩
set_option maxHeartbeats 1000000 in
theorem plays_not (k : List UInt8) (hk : k.length = 32) (c : UInt32) (n s : ByteArray) (hn : n.size ≠ 12) (hs : s.size ≤ 600) (w : World) :
    Calls Try.prog 6 #[.agg (bs k), W32 c, .string n, .string s] w fun e w' => e = .returned (.bool true) ∧ Below w.heap.size w w' := by
  have b1 := block3_not k c n hn
  have m1 := mask3_not k c n s hn
  have B1 := Lib.hid b1
  have M1 := Lib.hid m1
  have HK := Lib.hid hk
  have t1 : decide (600 < (s.size : Int)) = false := by simp; omega
  have t2 : ((n.size : Int) != 12) = true := by simp; omega
  clear b1 m1 hk hn
  have E := KE.fresh w k
  go_enter Try.func6, Try.ntmps6
  go_upto_region 1 with fail
  generalize w.alloc (.cells (bs k) 23) = w0 at E ⊢
  have i1 := E.hk
  go_wp2_with (first
    | (go_at_call 8; refine (awake3_any _).mono ?_; rintro e wq ⟨rfl, rfl⟩)
    | (refine wpList_load_row rfl 23 (.tmp 4) rfl w.heap.size rfl 23 (bs k) (0, 0) _ i1 Try.underlying23 rfl (infoKey k HK.out) ?_))
  refine (B1.out _).mono ?_
  rintro e w1 ⟨rfl, hb1⟩
  replace E := E.step hb1
  clear hb1 i1 w0 B1
  have i1 := E.hk
  go_wp2_with (refine wpList_load_row rfl 23 (.tmp 4) rfl w.heap.size rfl 23 (bs k) (0, 0) _ i1 Try.underlying23 rfl (infoKey k HK.out) ?_)
  refine (M1.out _).mono ?_
  rintro e w2 ⟨rfl, hb1⟩
  replace E := E.step hb1
  clear hb1 i1 w1 M1
  go_wp2
  go_ret
  exact ⟨rfl, E.hb⟩
set_option maxHeartbeats 1000000 in
theorem plays_short (k : List UInt8) (hk : k.length = 32) (c : UInt32) (n s : ByteArray) (hn : n.size = 12) (hs : s.size ≤ 600) (w : World) :
    Calls Try.prog 6 #[.agg (bs k), W32 c, .string n, .string s] w fun e w' => e = .returned (.bool true) ∧ Below w.heap.size w w' := by
  have b1 := block3_any k hk c n hn
  have m1 := mask3_any k hk c n s hn (by omega)
  have b2 := refBlock_any k hk c n hn
  have m2 := refMask_any k hk c n s hn (by omega)
  generalize (⟨(blkB (fst0 k c n.data.toList)).toArray⟩ : ByteArray) = A at b1 b2
  generalize (⟨(maskL (fst0 k c n.data.toList) s.data.toList).toArray⟩ : ByteArray) = B at m1 m2
  have B1 := Lib.hid b1
  have M1 := Lib.hid m1
  have B2 := Lib.hid b2
  have M2 := Lib.hid m2
  have HK := Lib.hid hk
  have t1 : decide (600 < (s.size : Int)) = false := by simp; omega
  have t2 : ((n.size : Int) != 12) = false := by simp; omega
  clear b1 m1 b2 m2 hk hn
  have E := KE.fresh w k
  go_enter Try.func6, Try.ntmps6
  go_upto_region 1 with fail
  generalize w.alloc (.cells (bs k) 23) = w0 at E ⊢
  have i1 := E.hk
  go_wp2_with (first
    | (go_at_call 8; refine (awake3_any _).mono ?_; rintro e wq ⟨rfl, rfl⟩)
    | (refine wpList_load_row rfl 23 (.tmp 4) rfl w.heap.size rfl 23 (bs k) (0, 0) _ i1 Try.underlying23 rfl (infoKey k HK.out) ?_))
  refine (B1.out _).mono ?_
  rintro e w1 ⟨rfl, hb1⟩
  replace E := E.step hb1
  clear hb1 i1 w0 B1
  have i1 := E.hk
  go_wp2_with (refine wpList_load_row rfl 23 (.tmp 4) rfl w.heap.size rfl 23 (bs k) (0, 0) _ i1 Try.underlying23 rfl (infoKey k HK.out) ?_)
  refine (M1.out _).mono ?_
  rintro e w2 ⟨rfl, hb1⟩
  replace E := E.step hb1
  clear hb1 i1 w1 M1
  have i1 := E.hk
  go_wp2_with (refine wpList_load_rowG rfl 23 (.tmp 4) rfl w.heap.size rfl 23 (bs k) (0, 0) _ i1 Try.underlying23 rfl (infoKey k HK.out) ?_)
  refine (B2.out _).mono ?_
  rintro e w3 ⟨rfl, hb1⟩
  replace E := E.step hb1
  clear hb1 i1 w2 B2
  have i1 := E.hk
  go_wp2_with (refine wpList_load_rowG rfl 23 (.tmp 4) rfl w.heap.size rfl 23 (bs k) (0, 0) _ i1 Try.underlying23 rfl (infoKey k HK.out) ?_)
  refine (M2.out _).mono ?_
  rintro e w4 ⟨rfl, hb1⟩
  replace E := E.step hb1
  clear hb1 i1 w3 M2
  go_wp2
  go_ret
  exact ⟨rfl, E.hb⟩
theorem playsLaw_any (k : List UInt8) (hk : k.length = 32) (c : Int) (hc : (Lit.int .u32 c).wf = true) (n s : ByteArray) (w : World) :
    Calls Try.prog 6 #[.agg (bs k), .int .u32 c, .string n, .string s] w fun e w' => e = .returned (.bool true) ∧ Below w.heap.size w w' := by
  obtain ⟨c, rfl⟩ : ∃ x : UInt32, c = (x.toNat : Int) := by
    have hb := bounds_u32 hc
    exact ⟨UInt32.ofNat c.toNat, by rw [UInt32.toNat_ofNat', Nat.mod_eq_of_lt (by omega)]; omega⟩
  by_cases h : 600 < s.size
  · exact plays_over k c n s h w
  · by_cases hn : n.size = 12
    · exact plays_short k hk c n s hn (by omega) w
    · exact plays_not k hk c n s hn (by omega) w
end Go.Proofs.Ytmlipnhmdgmhnaa
