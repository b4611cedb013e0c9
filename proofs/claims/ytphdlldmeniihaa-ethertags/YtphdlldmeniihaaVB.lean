/- ether.demand, rightType, Right, strings.Clone: walked. -/
import Derived.Test.YtphdlldmeniihaaVA
import Derived.Lib.UnsafeStr
namespace Go.Proofs.Ytphdlldmeniihaa
open Go.RowKit
/-- what demand ends with -/
def demanded (b : Bool) (n : Int) : Ending := if b then .returned (.tuple #[]) else thrown n
theorem demanded_yes {n : Int} : demanded true n = .returned (.tuple #[]) := rfl
theorem demanded_no {n : Int} : demanded false n = thrown n := rfl
theorem demand_any (b : Bool) (n : Int) (w : World) : Calls Try.prog 19 #[.bool b, .int .i64 n] w fun e w' => e = demanded b n ∧ w' = w := by
  cases b with
  | true =>
    go_enter Try.func19, Try.ntmps19
    go_wp2
    go_end0
    exact ⟨rfl, rfl⟩
  | false =>
    go_enter Try.func19, Try.ntmps19
    go_wp2
    exact ⟨rfl, rfl, rfl⟩
theorem ret_bool {b c : Bool} (h : b = true ↔ c = true) : Ending.returned (.bool b) = .returned (.bool c) := by rw [Bool.eq_iff_iff.2 h]
theorem rightType_any (k : Int) (w : World) : Calls Try.prog 15 #[.int .i64 k] w fun e w' => e = .returned (.bool (rightT k)) ∧ w' = w := by
  unfold rightT
  go_enter Try.func15, Try.ntmps15
  by_cases h0 : k = 0
  · subst h0
    go_wp2
    go_ret
    exact ⟨rfl, rfl⟩
  · by_cases h1 : 1536 ≤ k
    · by_cases h2 : k ≤ 65535
      · go_wp2
        go_ret
        exact ⟨ret_bool (by simp; omega), rfl⟩
      · go_wp2
        go_ret
        exact ⟨ret_bool (by simp; omega), rfl⟩
    · go_wp2
      go_ret
      exact ⟨ret_bool (by simp; omega), rfl⟩
theorem right_any (x : E8) (hx : x.Six) (w : World) : Calls Try.prog 10 #[.agg x.c] w fun e w' => e = .returned (.bool x.right) ∧ Below w.heap.size w w' := by
  have i0 := Has.fresh w 32 x.c
  have b0 : Below w.heap.size w (w.alloc (.cells x.c 32)) := (Below.refl _ _).alloc (Nat.le_refl _) _
  have ck := i0.fk hx
  have cb := i0.fb hx
  have cv := i0.fv hx
  have cp := i0.fp hx
  have hr := fun W => rightType_any x.k W
  have HR := Lib.hid hr
  have HB := Lib.hid b0
  clear i0 b0 hr
  obtain ⟨R, hR⟩ : ∃ R, R = x.right := ⟨_, rfl⟩
  rw [← hR]
  unfold E8.right at hR
  have HC := Lib.hid hR
  clear hR
  have fin : ∀ c : Bool, (c = true ↔ (rightT x.k && decide (x.b.size ≤ 1500) && (if x.v = -1 then x.p == 0 else decide (0 ≤ x.v) && decide (x.v ≤ 4094) && decide (0 ≤ x.p) && decide (x.p ≤ 7))) = true) →
      Ending.returned (.bool c) = .returned (.bool R) := fun c h => by
    rw [HC.out]
    exact ret_bool h
  have HF := Lib.hid fin
  clear fin
  by_cases t0 : rightT x.k = true
  · by_cases t1 : x.b.size ≤ 1500
    · have t2 : (x.b.size : Int) ≤ 1500 := by omega
      by_cases t3 : x.v = -1
      · go_enter Try.func10, Try.ntmps10
        go_wp2_with (go_at_call 15; refine (HR.out _).mono ?_; rintro e w1 ⟨rfl, rfl⟩)
        go_ret
        exact ⟨HF.out _ (by simp [t0, t1, t3]), HB.out⟩
      · by_cases t4 : 0 ≤ x.v
        · by_cases t5 : x.v ≤ 4094
          · by_cases t6 : 0 ≤ x.p
            · go_enter Try.func10, Try.ntmps10
              go_wp2_with (go_at_call 15; refine (HR.out _).mono ?_; rintro e w1 ⟨rfl, rfl⟩)
              go_ret
              exact ⟨HF.out _ (by simp [t0, t1, t3, t4, t5, t6]), HB.out⟩
            · go_enter Try.func10, Try.ntmps10
              go_wp2_with (go_at_call 15; refine (HR.out _).mono ?_; rintro e w1 ⟨rfl, rfl⟩)
              go_ret
              exact ⟨HF.out _ (by simp [t3]; omega), HB.out⟩
          · go_enter Try.func10, Try.ntmps10
            go_wp2_with (go_at_call 15; refine (HR.out _).mono ?_; rintro e w1 ⟨rfl, rfl⟩)
            go_ret
            exact ⟨HF.out _ (by simp [t3]; omega), HB.out⟩
        · go_enter Try.func10, Try.ntmps10
          go_wp2_with (go_at_call 15; refine (HR.out _).mono ?_; rintro e w1 ⟨rfl, rfl⟩)
          go_ret
          exact ⟨HF.out _ (by simp [t3]; omega), HB.out⟩
    · have t2 : ¬ (x.b.size : Int) ≤ 1500 := by omega
      go_enter Try.func10, Try.ntmps10
      go_wp2_with (go_at_call 15; refine (HR.out _).mono ?_; rintro e w1 ⟨rfl, rfl⟩)
      go_ret
      exact ⟨HF.out _ (by simp [t1]), HB.out⟩
  · rw [Bool.not_eq_true] at t0
    go_enter Try.func10, Try.ntmps10
    go_wp2_with (go_at_call 15; refine (HR.out _).mono ?_; rintro e w1 ⟨rfl, rfl⟩)
    go_ret
    exact ⟨HF.out _ (by simp [t0]), HB.out⟩
/-- strings.Clone: the same bytes -/
theorem clone_any (s : ByteArray) (hs : s.size ≤ 1000000) (w : World) : Calls Try.prog 24 #[.string s] w fun e w' => e = .returned (.string s) ∧ Below w.heap.size w w' := by
  by_cases h0 : s.size = 0
  · have hz : s = ⟨#[]⟩ := by
      apply ByteArray.ext
      have : s.data.size = 0 := h0
      exact Array.eq_empty_of_size_eq_zero this
    subst hz
    go_enter Try.func24, Try.ntmps24
    go_wp2
    go_ret
    exact ⟨rfl, Below.refl _ _⟩
  · have hmk := make_bytes s.size hs w
    have i0 := Has.fresh w 5 (bs (List.replicate s.size 0))
    have b0 : Below w.heap.size w (w.alloc (.cells (bs (List.replicate s.size 0)) 5)) := (Below.refl _ _).alloc (Nat.le_refl _) _
    have hlen : s.data.toList.length = s.size := by rw [len_list]
    have hcp : (Builtin.copy_ #[43, 9] 3 #[.slice (some ⟨w.heap.size, 0, none⟩) s.size s.size, .string s]).run Try.prog (w.alloc (.cells (bs (List.replicate s.size 0)) 5)) =
        .ok (.int .i64 (s.size : Int)) ((w.alloc (.cells (bs (List.replicate s.size 0)) 5)).setRow w.heap.size (bs s.data.toList)) := by
      have h1 := Lib.run_copy_row_string (P := Try.prog) _ 43 9 3 5 w.heap.size 0 s.size s.size s _ 5 Try.underlying43 (by kernel_rfl) i0 (Nat.le_refl _) (by rw [bs_size]; simp)
      rw [h1]
      have e : ((bs (List.replicate s.size 0)).toList.take 0 ++ Lib.byteCells s.data.toList ++ (bs (List.replicate s.size 0)).toList.drop (0 + s.size)).toArray = bs s.data.toList := by
        rw [List.take_zero, List.nil_append, List.drop_of_length_le (by rw [Array.length_toList, bs_size]; simp), List.append_nil]
        rfl
      rw [e]
      rfl
    have i1 := i0.setRow (bs s.data.toList)
    have b1 := below_setRow b0 (g := w.heap.size) (Nat.le_refl _) (bs s.data.toList)
    generalize (w.alloc (.cells (bs (List.replicate s.size 0)) 5)).setRow w.heap.size (bs s.data.toList) = w1 at hcp i1 b1
    have hus := Lib.run_unsafeString_row (P := Try.prog) (w := w1) 60 3 9 5 (by kernel_rfl) (by kernel_rfl) w.heap.size s.size (by unfold World.shape?; rw [i1]; simp [bs_size, hlen]) s.data.toList (by intro h; rw [h] at hlen; exact h0 hlen.symm) (by omega) (by omega)
      (fun j x hj => by
        have hj2 := (List.getElem?_eq_some_iff.1 hj).1
        rw [addr_add, i1.byte j hj2, List.getD_eq_getElem?_getD, hj]; rfl)
    rw [hlen, str_of] at hus
    have b2 := Lib.below_freeze b1 (p := ⟨w.heap.size, 0, none⟩) (Nat.le_refl _) s.size
    have B2 := Lib.hid b2
    clear b0 b1 b2 i0
    go_enter Try.func24, Try.ntmps24
    go_wp2
    go_ret
    exact ⟨rfl, B2.out⟩
end Go.Proofs.Ytphdlldmeniihaa
