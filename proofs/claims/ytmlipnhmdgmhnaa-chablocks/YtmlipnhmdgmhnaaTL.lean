/- The walk of law ChaTwice. -/
import Derived.Test.YtmlipnhmdgmhnaaTK
import Derived.Test.YtmlipnhmdgmhnaaTC
import Derived.OpenShut
namespace Go.Proofs.Ytmlipnhmdgmhnaa
open Go.RowKit
set_option maxHeartbeats 400000 in
theorem twice_over (k n : List UInt8) (c : UInt32) (s : ByteArray) (hs : 600 < s.size) (w : World) :
    Calls Try.prog 3 #[.agg (bs k), W32 c, .agg (bs n), .string s] w fun e w' => e = .returned (.bool true) ∧ Below w.heap.size w w' := by
  have hb : Below w.heap.size w ((w.alloc (.cells (bs k) 23)).alloc (.cells (bs n) 25)) := ((Below.refl _ _).alloc (Nat.le_refl _) _).alloc (by simp) _
  have t1 : decide (600 < (s.size : Int)) = true := by simp; omega
  go_enter Try.func3, Try.ntmps3
  go_wp2_with (go_at_call 8; refine (awake3_any _).mono ?_; rintro e wq ⟨rfl, rfl⟩)
  go_ret
  exact ⟨rfl, hb⟩
/-- what memory holds in the midst of the law -/
def KNEnv (w : World) (k n : List UInt8) (W : World) : Prop := Has W w.heap.size 23 (bs k) ∧ Has W (w.heap.size + 1) 25 (bs n) ∧ Below w.heap.size w W
theorem KNEnv.step {w : World} {k n : List UInt8} {W W' : World} (h : KNEnv w k n W) (hb : Below W.heap.size W W') : KNEnv w k n W' :=
  ⟨h.1.below hb h.1.lt, h.2.1.below hb h.2.1.lt, h.2.2.trans (hb.mono h.2.2.size)⟩
theorem KNEnv.drew {w : World} {k n : List UInt8} {W : World} (h : KNEnv w k n W) : KNEnv w k n W.drew := ⟨h.1, h.2.1, h.2.2.drew⟩
theorem KNEnv.fresh (w : World) (k n : List UInt8) : KNEnv w k n ((w.alloc (.cells (bs k) 23)).alloc (.cells (bs n) 25)) :=
  ⟨(Has.fresh w 23 _).alloc _, heap_alloc2_new w _ _, ((Below.refl _ _).alloc (Nat.le_refl _) _).alloc (by simp) _⟩
set_option maxHeartbeats 1000000 in
theorem twice_short (k n : List UInt8) (hk : k.length = 32) (hn : n.length = 12) (c : UInt32) (s : ByteArray) (hs : s.size ≤ 600) (w : World) :
    Calls Try.prog 3 #[.agg (bs k), W32 c, .agg (bs n), .string s] w fun e w' => e = .returned (.bool true) ∧ Below w.heap.size w w' := by
  have m1 := mask3_any k hk c ⟨n.toArray⟩ s (by rw [str_size, hn]) (by omega)
  have htw := mask_twice (fst0 k c n) s.data.toList
  have hA : (⟨(maskL (fst0 k c n) s.data.toList).toArray⟩ : ByteArray).size = s.size := by rw [str_size, maskL_length, len_list]
  have m2 := mask3_any k hk c ⟨n.toArray⟩ ⟨(maskL (fst0 k c n) s.data.toList).toArray⟩ (by rw [str_size, hn]) (by rw [hA]; omega)
  rw [str_list, str_list, htw, str_of] at m2
  rw [str_list] at m1
  generalize (⟨(maskL (fst0 k c n) s.data.toList).toArray⟩ : ByteArray) = A at m1 m2 hA
  clear htw
  have M1 := Lib.hid m1
  have M2 := Lib.hid m2
  have HK := Lib.hid hk
  have HN := Lib.hid hn
  clear m1 m2 hk hn
  have E := KNEnv.fresh w k n
  have t1 : decide (600 < (s.size : Int)) = false := by simp; omega
  go_enter Try.func3, Try.ntmps3
  go_upto_region 1 with fail
  generalize (w.alloc (.cells (bs k) 23)).alloc (.cells (bs n) 25) = w0 at E ⊢
  have hcv := conv_bytes E.2.1 12 12 HN.out
  have i1 := E.1
  go_wp2_with (first
    | (go_at_call 8; refine (awake3_any _).mono ?_; rintro e wq ⟨rfl, rfl⟩)
    | (refine wpList_load_row rfl 23 (.tmp 4) rfl w.heap.size rfl 23 (bs k) (0, 0) _ i1 Try.underlying23 rfl (infoKey k HK.out) ?_))
  refine (M1.out _).mono ?_
  rintro e w1 ⟨rfl, hb1⟩
  replace E := E.step hb1
  clear hb1 hcv i1 w0 M1
  have i1 := E.1
  go_wp2_with (refine wpList_load_row rfl 23 (.tmp 4) rfl w.heap.size rfl 23 (bs k) (0, 0) _ i1 Try.underlying23 rfl (infoKey k HK.out) ?_)
  refine (M2.out _).mono ?_
  rintro e w2 ⟨rfl, hb1⟩
  replace E := E.step hb1
  clear hb1 i1 w1 M2
  go_wp2
  go_ret
  exact ⟨rfl, E.2.2⟩
theorem twiceLaw_any (k : List UInt8) (hk : k.length = 32) (c : Int) (hc : (Lit.int .u32 c).wf = true) (n : List UInt8) (hn : n.length = 12) (s : ByteArray) (w : World) :
    Calls Try.prog 3 #[.agg (bs k), .int .u32 c, .agg (bs n), .string s] w fun e w' => e = .returned (.bool true) ∧ Below w.heap.size w w' := by
  obtain ⟨c, rfl⟩ : ∃ x : UInt32, c = (x.toNat : Int) := by
    have hb := bounds_u32 hc
    exact ⟨UInt32.ofNat c.toNat, by rw [UInt32.toNat_ofNat', Nat.mod_eq_of_lt (by omega)]; omega⟩
  by_cases h : 600 < s.size
  · exact twice_over k n c s h w
  · exact twice_short k n hk hn c s (by omega) w
end Go.Proofs.Ytmlipnhmdgmhnaa
