/- The walk of law PolyBits. -/
import Derived.Test.YtenpohoekgfeaaaPK
import Derived.OpenShut
namespace Go.Proofs.Ytenpohoekgfeaaa
open Go.RowKit
theorem ext_getD (a b : List UInt8) (hl : a.length = b.length) (h : ∀ i, i < a.length → a.getD i 0 = b.getD i 0) : a = b := by
  apply List.ext_getElem hl
  intro i h1 h2
  have := h i h1
  simpa [List.getD_eq_getElem?_getD, h1, h2] using this
theorem clF_twice (i : Nat) (x : UInt8) : clF i (clF i x) = clF i x := by
  unfold clF
  split
  · rw [UInt8.and_assoc]; rfl
  · split
    · rw [UInt8.and_assoc]; rfl
    · rfl
theorem clamp_twice (k : List UInt8) (hk : k.length = 32) : clampL (clampL k) = clampL k := by
  refine ext_getD _ _ (clampL_length _) (fun i _ => ?_)
  rw [clampL_getD _ (by rw [clampL_length]; omega), clampL_getD _ (by omega), clF_twice]
theorem clamp_drop (k : List UInt8) (hk : k.length = 32) : (clampL k).drop 16 = k.drop 16 := by
  refine ext_getD _ _ (by rw [List.length_drop, List.length_drop, clampL_length]) (fun i _ => ?_)
  have h := clampL_getD k (by omega) (16 + i)
  unfold clF at h
  rw [if_neg (by omega), if_neg (by omega)] at h
  rw [List.getD_eq_getElem?_getD, List.getElem?_drop, ← List.getD_eq_getElem?_getD, h, List.getD_eq_getElem?_getD, List.getD_eq_getElem?_getD, List.getElem?_drop]
/-- the first j bytes made 0 -/
def zTo (k : List UInt8) (j : Nat) : List UInt8 := List.replicate j 0 ++ k.drop j
theorem zTo_length (k : List UInt8) (j : Nat) (h : j ≤ k.length) : (zTo k j).length = k.length := by unfold zTo; rw [List.length_append, List.length_replicate, List.length_drop]; omega
theorem zTo_set (k : List UInt8) (j : Nat) (h : j < k.length) : (zTo k j).set j 0 = zTo k (j + 1) := by
  unfold zTo
  rw [List.set_append_right _ _ (by simp), List.length_replicate, Nat.sub_self, List.drop_eq_getElem_cons h, List.set_cons_zero, List.replicate_succ']
  simp
theorem acc_zero (l : List UInt8) (j : Nat) : acc 0 l j = 0 := by
  cases j with
  | zero => rfl
  | succ j => simp [acc]
theorem zero_sum (k l : List UInt8) (hk : k.length = 32) : polyL (zTo k 16) l = k.drop 16 := by
  have hz := zTo_length k 16 (by omega)
  have h1 : (clampL (zTo k 16)).take 16 = List.replicate 16 0 := by
    refine ext_getD _ _ (by rw [List.length_take, clampL_length, hz, hk]; rfl) (fun i hi => ?_)
    rw [List.length_take, clampL_length, hz, hk] at hi
    have h := clampL_getD (zTo k 16) (by omega) i
    have e0 : (zTo k 16).getD i 0 = 0 := by
      unfold zTo
      rw [List.getD_eq_getElem?_getD, List.getElem?_append_left (by simp; omega), List.getElem?_replicate, if_pos (by omega)]
      rfl
    have e1 : clF i 0 = 0 := by unfold clF; split <;> first | rfl | (split <;> rfl)
    rw [e0, e1] at h
    rw [List.getD_eq_getElem?_getD, List.getElem?_take_of_lt (by omega), ← List.getD_eq_getElem?_getD, h, List.getD_eq_getElem?_getD, List.getElem?_replicate, if_pos (by omega)]
    rfl
  have h2 : (clampL (zTo k 16)).drop 16 = k.drop 16 := by
    rw [clamp_drop _ (by omega)]
    unfold zTo
    rw [List.drop_append_of_le_length (by simp), List.drop_of_length_le (by simp), List.nil_append]
  unfold polyL polyN
  rw [h1, h2, show nb (List.replicate 16 0) = 0 from by decide, acc_zero, Nat.zero_add]
  have h3 := leB_nb (k.drop 16)
  rw [List.length_drop, hk] at h3
  exact h3
theorem clamp_sum (k l : List UInt8) (hk : k.length = 32) : polyL (clampL k) l = polyL k l := by
  unfold polyL polyN
  rw [clamp_twice k hk]
set_option maxHeartbeats 400000 in
theorem bits_over (k : List UInt8) (s : ByteArray) (hs : 400 < s.size) (w : World) :
    Calls Try.prog 3 #[.agg (bs k), .string s] w fun e w' => e = .returned (.bool true) ∧ Below w.heap.size w w' := by
  have hb : Below w.heap.size w (w.alloc (.cells (bs k) 23)) := (Below.refl _ _).alloc (Nat.le_refl _) _
  have t1 : decide (400 < (s.size : Int)) = true := by simp; omega
  go_enter Try.func3, Try.ntmps3
  go_upto_region 1 with fail
  generalize w.alloc (.cells (bs k) 23) = w0 at hb ⊢
  go_wp2_with fail
  go_at_call 9
  refine (awake4_any _).mono ?_
  rintro e w1 ⟨rfl, hb1⟩
  replace hb := hb.trans (hb1.mono hb.size)
  clear hb1 w0
  go_wp2_with fail
  go_at_call 9
  refine (awake4_any _).mono ?_
  rintro e w2 ⟨rfl, hb1⟩
  replace hb := hb.trans (hb1.mono hb.size)
  clear hb1 w1
  go_wp2
  go_ret
  exact ⟨rfl, hb⟩
/-- what memory holds in the midst of the law -/
def BEnv (w : World) (g5 g6 : Nat) (k z t : List UInt8) (W : World) : Prop :=
  Has W w.heap.size 23 (bs k) ∧ Has W g5 23 (bs z) ∧ Has W g6 25 (bs t) ∧ Below w.heap.size w W
section
variable {w : World} {g5 g6 : Nat} {k z t : List UInt8} {W W' : World}
theorem BEnv.drew (h : BEnv w g5 g6 k z t W) : BEnv w g5 g6 k z t W.drew := ⟨h.1, h.2.1, h.2.2.1, h.2.2.2.drew⟩
theorem BEnv.step (h : BEnv w g5 g6 k z t W) (hb : Below W.heap.size W W') : BEnv w g5 g6 k z t W' :=
  ⟨h.1.below hb h.1.lt, h.2.1.below hb h.2.1.lt, h.2.2.1.below hb h.2.2.1.lt, h.2.2.2.trans (hb.mono h.2.2.2.size)⟩
theorem BEnv.put (h : BEnv w g5 g6 k z t W) (h5 : w.heap.size < g5) (h6 : g5 < g6) (i j : Nat) (x y : UInt8) :
    BEnv w g5 g6 k (z.set i x) (t.set j y) ((W.setCell ⟨g5, i, none⟩ (B8 x)).setCell ⟨g6, j, none⟩ (B8 y)) :=
  ⟨(h.1.other (by show w.heap.size ≠ g5; omega) _).other (by show w.heap.size ≠ g6; omega) _, (h.2.1.setB i x).other (by show g5 ≠ g6; omega) _, (h.2.2.1.other (by show g6 ≠ g5; omega) _).setB j y,
    (h.2.2.2.setCell (by show w.heap.size ≤ g5; omega) _).setCell (by show w.heap.size ≤ g6; omega) _⟩
end
set_option maxHeartbeats 2000000 in
theorem bits_short (k : List UInt8) (hk : k.length = 32) (s : ByteArray) (hs : s.size ≤ 400) (w : World) :
    Calls Try.prog 3 #[.agg (bs k), .string s] w fun e w' => e = .returned (.bool true) ∧ Below w.heap.size w w' := by
  have S1 := sum_any (clampL k) (by rw [clampL_length, hk]) s (by omega)
  rw [clamp_sum k _ hk] at S1
  have S2 := sum_any k hk s (by omega)
  have S3 := sum_any (zTo k 16) (by rw [zTo_length _ _ (by omega), hk]) s (by omega)
  rw [zero_sum k _ hk] at S3
  have C1 := clamp_any k hk
  have C2 := clamp_any (clampL k) (by rw [clampL_length, hk])
  rw [clamp_twice k hk] at C2
  have hlp : (polyL k s.data.toList).length = 16 := leB_length _ _
  have hlw : (k.drop 16).length = 16 := by rw [List.length_drop, hk]
  have hlc : (clampL k).length = 32 := by rw [clampL_length, hk]
  have q1 := eq16 _ _ hlp hlp
  have q2 := eqKey _ _ hlc hlc
  have q3 := eq16 _ _ hlw hlw
  rw [beq_self_eq_true] at q1 q2 q3
  generalize polyL k s.data.toList = pk at S1 S2 q1 hlp
  generalize clampL k = c at S1 C1 C2 q2 hlc
  have HS1 := Lib.hid S1
  have HS2 := Lib.hid S2
  have HS3 := Lib.hid S3
  have HC1 := Lib.hid C1
  have HC2 := Lib.hid C2
  have HQ1 := Lib.hid q1
  have HQ2 := Lib.hid q2
  have HQ3 := Lib.hid q3
  have HLW := Lib.hid hlw
  have HLC := Lib.hid hlc
  have HK := Lib.hid hk
  clear S1 S2 S3 C1 C2 q1 q2 q3 hlp hlw hlc hk
  have i1 : Has (w.alloc (.cells (bs k) 23)) w.heap.size 23 (bs k) := Has.fresh w 23 _
  have hb : Below w.heap.size w (w.alloc (.cells (bs k) 23)) := (Below.refl _ _).alloc (Nat.le_refl _) _
  have t1 : decide (400 < (s.size : Int)) = false := by simp; omega
  go_enter Try.func3, Try.ntmps3
  go_upto_region 1 with fail
  generalize w.alloc (.cells (bs k) 23) = w0 at i1 hb ⊢
  go_wp2_with fail
  go_at_call 9
  refine (awake4_any _).mono ?_
  rintro e w1 ⟨rfl, hb1⟩
  replace i1 := i1.below hb1 i1.lt
  replace hb := hb.trans (hb1.mono hb.size)
  clear hb1 w0
  have hg5 : w.heap.size < w1.heap.size := i1.lt
  have i5 : Has (w1.alloc (.cells zk32 23)) w1.heap.size 23 zk32 := Has.fresh w1 23 _
  go_upto_region 4 with (first
    | (refine wpList_load_row rfl 23 (.tmp 2) rfl w.heap.size rfl 23 (bs k) (0, 0) _ i1 Try.underlying23 rfl (infoKey k HK.out) ?_)
    | (refine wpList_store_row rfl 23 (.tmp 5) (.tmp 17) rfl w1.heap.size (bs k) rfl rfl 23 zk32 i5 (infoKey k HK.out) (zk32_size k HK.out) (bs_one k) ?_))
  change Code.wp _ _ _ _ ((w1.alloc (.cells zk32 23)).setRow w1.heap.size (bs k))
  replace i5 := i5.setRow (bs k)
  replace i1 := (i1.alloc (.cells zk32 23)).setRow_other (g' := w1.heap.size) (by omega) (bs k)
  replace hb := below_setRow (hb.alloc hb.size (.cells zk32 23)) (g := w1.heap.size) (by omega) (bs k)
  generalize (w1.alloc (.cells zk32 23)).setRow w1.heap.size (bs k) = w2 at i1 i5 hb ⊢
  generalize w1.heap.size = g5 at hg5 i5 ⊢
  clear w1
  have hg6 : g5 < w2.heap.size := i5.lt
  have E : BEnv w g5 w2.heap.size k (zTo k 0) ((k.drop 16).take 0 ++ List.replicate (16 - 0) 0) (w2.alloc (.cells zb16 25)) :=
    ⟨i1.alloc _, i5.alloc _, Has.fresh w2 25 _, hb.alloc hb.size _⟩
  go_upto_region 5 with fail
  change Code.wp _ _ _ _ (w2.alloc (.cells zb16 25))
  generalize w2.alloc (.cells zb16 25) = w3 at E ⊢
  generalize w2.heap.size = g6 at hg6 E ⊢
  clear i1 i5 hb w2
  go_wp2
  go_loopw [7] (fun i wr => ∃ (j : Nat), j ≤ 16 ∧ i = .int .i64 (j : Int) ∧ BEnv w g5 g6 k (zTo k j) ((k.drop 16).take j ++ List.replicate (16 - j) 0) wr) (fun i _ => 16 - (intOf i).toNat)
  case atStart => exact ⟨0, by omega, rfl, E⟩
  case round =>
    clear E w3
    obtain ⟨j, hj, rfl, E⟩ := hrel
    by_cases hlt : j < 16
    · have t2 : decide ((j : Int) < 16) = true := by simp; omega
      have h16 : ¬ ((16 : Int) ≤ (j : Int)) := by omega
      have h32 : ¬ ((32 : Int) ≤ (j : Int)) := by omega
      have hq : IntKind.i64.wrap (16 + (j : Int)) = ((16 + j : Nat) : Int) := by rw [IntWalk.i64_in _ (by omega)]; omega
      have hq32 : ¬ ((32 : Int) ≤ ((16 + j : Nat) : Int)) := by omega
      have c5 := E.2.1.byte j (by rw [zTo_length _ _ (by rw [HK.out]; omega), HK.out]; omega)
      have f5 := E.2.1.frozen j
      have hz1 := zTo_set k j (by rw [HK.out]; omega)
      have hp := padB_set (k.drop 16) 16 j (by rw [HLW.out]; omega) (by omega)
      have hgd : (k.drop 16).getD j 0 = k.getD (16 + j) 0 := by rw [List.getD_eq_getElem?_getD, List.getElem?_drop, ← List.getD_eq_getElem?_getD]
      rw [hgd] at hp
      have E2 := E.put hg5 hg6 j j 0 (k.getD (16 + j) 0)
      rw [hz1, hp] at E2
      have h1 : Has (wr.setCell ⟨g5, j, none⟩ (B8 0)) w.heap.size 23 (bs k) := E.1.other (by show w.heap.size ≠ g5; omega) _
      have h6 : Has (wr.setCell ⟨g5, j, none⟩ (B8 0)) g6 25 (bs ((k.drop 16).take j ++ List.replicate (16 - j) 0)) := E.2.2.1.other (by show g6 ≠ g5; omega) _
      have c1 := h1.byte (16 + j) (by rw [HK.out]; omega)
      have c6 := h6.byte j (by rw [padB_length _ _ _ (by rw [HLW.out]; omega) (by omega)]; omega)
      have f6 := h6.frozen j
      generalize (zTo k j).getD j 0 = m1 at c5
      generalize (List.take j (k.drop 16) ++ List.replicate (16 - j) 0).getD j 0 = m2 at c6
      generalize k.getD (16 + j) 0 = x at c1 E2
      have HE2 := Lib.hid E2
      clear E2 E h1 h6 hz1 hp hgd
      generalize hqq : 16 + j = q at *
      change (wr.setCell ⟨g5, j, none⟩ (.int .u8 0)).cell? _ = _ at c1
      change (wr.setCell ⟨g5, j, none⟩ (.int .u8 0)).cell? _ = _ at c6
      change (wr.setCell ⟨g5, j, none⟩ (.int .u8 0)).frozen? _ = _ at f6
      go_wp2
      go_roundw
      case rel => exact ⟨j + 1, by omega, by go_num, HE2.out⟩
      case measure => simp [intOf]; omega
    · have hj2 : j = 16 := by omega
      subst hj2
      have hlz : (zTo k 16).length = 32 := by rw [zTo_length _ _ (by rw [HK.out]; omega), HK.out]
      rw [Nat.sub_self, List.replicate_zero, List.append_nil, List.take_of_length_le (by rw [HLW.out]; omega)] at E
      have t2 : decide (((16 : Nat) : Int) < 16) = false := by decide
      generalize zTo k 16 = z at HS3 hlz E
      generalize k.drop 16 = t at HS3 HQ3 HLW E
      have HLZ := Lib.hid hlz
      clear hlz
      have i1 := E.1
      go_wp2_with (refine wpList_load_row rfl 23 (.tmp 2) rfl w.heap.size rfl 23 (bs k) (0, 0) _ i1 Try.underlying23 rfl (infoKey k HK.out) ?_)
      go_at_call 10
      refine (HC1.out _).mono ?_
      rintro e w4 ⟨rfl, hb1⟩
      replace E := E.step hb1
      clear hb1 i1 HC1
      have i8 : Has (w4.alloc (.cells zk32 23)) w4.heap.size 23 zk32 := Has.fresh w4 23 _
      have hg8 : g6 < w4.heap.size := E.2.2.1.lt
      go_upto_region 11 with (refine wpList_store_row rfl 23 (.tmp 8) (.tmp 31) rfl w4.heap.size (bs c) rfl rfl 23 zk32 i8 (infoKey c HLC.out) (zk32_size c HLC.out) (bs_one c) ?_)
      change Code.wp _ _ _ _ ((w4.alloc (.cells zk32 23)).setRow w4.heap.size (bs c))
      replace i8 := i8.setRow (bs c)
      have E2 : BEnv w g5 g6 k z t ((w4.alloc (.cells zk32 23)).setRow w4.heap.size (bs c)) :=
        ⟨(E.1.alloc _).setRow_other (by omega) _, (E.2.1.alloc _).setRow_other (by omega) _, (E.2.2.1.alloc _).setRow_other (by omega) _, below_setRow (E.2.2.2.alloc E.2.2.2.size _) (by omega) _⟩
      generalize (w4.alloc (.cells zk32 23)).setRow w4.heap.size (bs c) = w5 at i8 E2 ⊢
      generalize w4.heap.size = g8 at hg8 i8 ⊢
      clear E w4
      simp only [Act.put]
      refine wp_region_noPanic ?_
      refine wp_region_held_drew (S := fun W => Has W w.heap.size 23 (bs k) ∧ Has W g5 23 (bs z) ∧ Has W g6 25 (bs t) ∧ Has W g8 23 (bs c)) (by kernel_rfl) ⟨E2.1.drew, E2.2.1.drew, E2.2.2.1.drew, i8.drew⟩ (fun hS => ?_)
      replace E2 := E2.drew
      replace i8 := i8.drew
      generalize w5.drew = w6 at E2 i8 hS ⊢
      refine take1 hS 0 32 (.agg (bs c)) _ rfl (by kernel_rfl) (by kernel_rfl) (by kernel_rfl) (fun _ _ _ h => h) rfl rfl (fun w' h => by exact exec_load_row 23 (.tmp 8) g8 h.2.2.2 Try.underlying23 rfl (infoKey c HLC.out) rfl rfl) ?_
      simp only [Act.put, List.setIfInBounds_toArray, List.set_cons_zero, List.set_cons_succ]
      refine take1 hS 1 33 (.string s) _ rfl (by kernel_rfl) (by kernel_rfl) (by kernel_rfl) (fun _ _ _ h => h) rfl rfl (fun w' h => by go_simp) ?_
      simp only [Act.put, List.setIfInBounds_toArray, List.set_cons_zero, List.set_cons_succ]
      refine take1 hS 3 35 (.agg (bs k)) _ rfl (by kernel_rfl) (by kernel_rfl) (by kernel_rfl) (fun _ _ _ h => h) rfl rfl (fun w' h => by exact exec_load_row 23 (.tmp 2) w.heap.size h.1 Try.underlying23 rfl (infoKey k HK.out) rfl rfl) ?_
      simp only [Act.put, List.setIfInBounds_toArray, List.set_cons_zero, List.set_cons_succ]
      refine take1 hS 4 36 (.string s) _ rfl (by kernel_rfl) (by kernel_rfl) (by kernel_rfl) (fun _ _ _ h => h) rfl rfl (fun w' h => by go_simp) ?_
      simp only [Act.put, List.setIfInBounds_toArray, List.set_cons_zero, List.set_cons_succ]
      have hcall := HS1.out w6
      refine onlyCall 2 34 _ _ _ (by kernel_rfl) rfl rfl rfl (by go_simp) hcall ?_
      rintro e w7 ⟨rfl, hb1⟩
      replace E2 := E2.step hb1
      replace i8 := i8.below hb1 i8.lt
      replace hS := (⟨E2.1, E2.2.1, E2.2.2.1, i8⟩ : _ ∧ _ ∧ _ ∧ _)
      refine ⟨_, rfl, hS, ?_⟩
      simp only [Act.put, List.setIfInBounds_toArray, List.set_cons_zero, List.set_cons_succ]
      clear hcall hb1
      have hcall := HS2.out w7
      refine onlyCall 5 37 _ _ _ (by kernel_rfl) rfl rfl rfl (by go_simp) hcall ?_
      rintro e w8 ⟨rfl, hb1⟩
      replace E2 := E2.step hb1
      replace i8 := i8.below hb1 i8.lt
      replace hS := (⟨E2.1, E2.2.1, E2.2.2.1, i8⟩ : _ ∧ _ ∧ _ ∧ _)
      refine ⟨_, rfl, hS, ?_⟩
      simp only [Act.put, List.setIfInBounds_toArray, List.set_cons_zero, List.set_cons_succ]
      clear hcall hb1
      refine take1 hS 6 38 (.bool true) _ rfl (by kernel_rfl) (by kernel_rfl) (by kernel_rfl) (fun _ _ _ h => h) rfl rfl (fun w' h => by exact exec_eq16 (.tmp 34) (.tmp 37) _ _ _ rfl rfl rfl HQ1.out) ?_
      simp only [Act.put, List.setIfInBounds_toArray, List.set_cons_zero, List.set_cons_succ]
      refine take1 hS 7 39 (.bool true) _ rfl (by kernel_rfl) (by kernel_rfl) (by kernel_rfl) (fun _ _ _ h => h) rfl rfl (fun w' h => by go_simp) ?_
      simp only [Act.put, List.setIfInBounds_toArray, List.set_cons_zero, List.set_cons_succ]
      refine take1 hS 8 40 (.agg (bs c)) _ rfl (by kernel_rfl) (by kernel_rfl) (by kernel_rfl) (fun _ _ _ h => h) rfl rfl (fun w' h => by exact exec_load_row 23 (.tmp 8) g8 h.2.2.2 Try.underlying23 rfl (infoKey c HLC.out) rfl rfl) ?_
      simp only [Act.put, List.setIfInBounds_toArray, List.set_cons_zero, List.set_cons_succ]
      refine take1 hS 10 42 (.agg (bs c)) _ rfl (by kernel_rfl) (by kernel_rfl) (by kernel_rfl) (fun _ _ _ h => h) rfl rfl (fun w' h => by exact exec_load_row 23 (.tmp 8) g8 h.2.2.2 Try.underlying23 rfl (infoKey c HLC.out) rfl rfl) ?_
      simp only [Act.put, List.setIfInBounds_toArray, List.set_cons_zero, List.set_cons_succ]
      have hcall := HC2.out w8
      refine onlyCall 9 41 _ _ _ (by kernel_rfl) rfl rfl rfl (by go_simp) hcall ?_
      rintro e w9 ⟨rfl, hb1⟩
      replace E2 := E2.step hb1
      replace i8 := i8.below hb1 i8.lt
      replace hS := (⟨E2.1, E2.2.1, E2.2.2.1, i8⟩ : _ ∧ _ ∧ _ ∧ _)
      refine ⟨_, rfl, hS, ?_⟩
      simp only [Act.put, List.setIfInBounds_toArray, List.set_cons_zero, List.set_cons_succ]
      clear hcall hb1
      refine take1 hS 11 43 (.bool true) _ rfl (by kernel_rfl) (by kernel_rfl) (by kernel_rfl) (fun _ _ _ h => h) rfl rfl (fun w' h => by exact exec_eqKey (.tmp 41) (.tmp 42) _ _ _ rfl rfl rfl HQ2.out) ?_
      simp only [Act.put, List.setIfInBounds_toArray, List.set_cons_zero, List.set_cons_succ]
      refine take1 hS 12 44 (.bool true) _ rfl (by kernel_rfl) (by kernel_rfl) (by kernel_rfl) (fun _ _ _ h => h) rfl rfl (fun w' h => by go_simp) ?_
      simp only [Act.put, List.setIfInBounds_toArray, List.set_cons_zero, List.set_cons_succ]
      refine take1 hS 13 45 (.bool true) _ rfl (by kernel_rfl) (by kernel_rfl) (by kernel_rfl) (fun _ _ _ h => h) rfl rfl (fun w' h => by go_simp) ?_
      simp only [Act.put, List.setIfInBounds_toArray, List.set_cons_zero, List.set_cons_succ]
      refine take1 hS 14 46 (.agg (bs z)) _ rfl (by kernel_rfl) (by kernel_rfl) (by kernel_rfl) (fun _ _ _ h => h) rfl rfl (fun w' h => by exact exec_load_row 23 (.tmp 5) g5 h.2.1 Try.underlying23 rfl (infoKey z HLZ.out) rfl rfl) ?_
      simp only [Act.put, List.setIfInBounds_toArray, List.set_cons_zero, List.set_cons_succ]
      refine take1 hS 15 47 (.string s) _ rfl (by kernel_rfl) (by kernel_rfl) (by kernel_rfl) (fun _ _ _ h => h) rfl rfl (fun w' h => by go_simp) ?_
      simp only [Act.put, List.setIfInBounds_toArray, List.set_cons_zero, List.set_cons_succ]
      refine take1 hS 17 49 (.agg (bs t)) _ rfl (by kernel_rfl) (by kernel_rfl) (by kernel_rfl) (fun _ _ _ h => h) rfl rfl (fun w' h => by exact exec_load_row 25 (.tmp 6) g6 h.2.2.1 Try.underlying25 rfl (infoB16 t HLW.out) rfl rfl) ?_
      simp only [Act.put, List.setIfInBounds_toArray, List.set_cons_zero, List.set_cons_succ]
      have hcall := HS3.out w9
      refine onlyCall 16 48 _ _ _ (by kernel_rfl) rfl rfl rfl (by go_simp) hcall ?_
      rintro e w10 ⟨rfl, hb1⟩
      replace E2 := E2.step hb1
      replace i8 := i8.below hb1 i8.lt
      replace hS := (⟨E2.1, E2.2.1, E2.2.2.1, i8⟩ : _ ∧ _ ∧ _ ∧ _)
      refine ⟨_, rfl, hS, ?_⟩
      simp only [Act.put, List.setIfInBounds_toArray, List.set_cons_zero, List.set_cons_succ]
      clear hcall hb1
      refine take1 hS 18 50 (.bool true) _ rfl (by kernel_rfl) (by kernel_rfl) (by kernel_rfl) (fun _ _ _ h => h) rfl rfl (fun w' h => by exact exec_eq16 (.tmp 48) (.tmp 49) _ _ _ rfl rfl rfl HQ3.out) ?_
      simp only [Act.put, List.setIfInBounds_toArray, List.set_cons_zero, List.set_cons_succ]
      refine take1 hS 19 51 (.bool true) _ rfl (by kernel_rfl) (by kernel_rfl) (by kernel_rfl) (fun _ _ _ h => h) rfl rfl (fun w' h => by go_simp) ?_
      simp only [Act.put, List.setIfInBounds_toArray, List.set_cons_zero, List.set_cons_succ]
      refine take1 hS 20 4 (.bool true) _ rfl (by kernel_rfl) (by kernel_rfl) (by kernel_rfl) (fun _ _ _ h => h) rfl rfl (fun w' h => by go_simp) ?_
      simp only [Act.put, List.setIfInBounds_toArray, List.set_cons_zero, List.set_cons_succ]
      refine wpAnyH_done (by kernel_rfl) ?_ _
      refine NoPanic.normal ?_
      go_wp2
      go_ret
      exact ⟨rfl, E2.2.2.2⟩
theorem bitsLaw_any (k : List UInt8) (hk : k.length = 32) (s : ByteArray) (w : World) :
    Calls Try.prog 3 #[.agg (bs k), .string s] w fun e w' => e = .returned (.bool true) ∧ Below w.heap.size w w' := by
  rcases Nat.lt_or_ge 400 s.size with h | h
  · exact bits_over k s h w
  · exact bits_short k hk s h w
end Go.Proofs.Ytenpohoekgfeaaa
