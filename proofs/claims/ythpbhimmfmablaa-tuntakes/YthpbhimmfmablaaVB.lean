/- ether.demand, rightType, Right, strings.Clone: walked. -/
import Derived.Test.YthpbhimmfmablaaVA
import Derived.Lib.UnsafeStr
namespace Go.Proofs.Ythpbhimmfmablaa
open Go.RowKit
/-- what demand ends with -/
def demanded (b : Bool) (n : Int) : Ending := if b then .returned (.tuple #[]) else thrown n
theorem demanded_yes {n : Int} : demanded true n = .returned (.tuple #[]) := rfl
theorem demanded_no {n : Int} : demanded false n = thrown n := rfl
theorem ret_bool {b c : Bool} (h : b = true ↔ c = true) : Ending.returned (.bool b) = .returned (.bool c) := by rw [Bool.eq_iff_iff.2 h]
/-- strings.Clone: the same bytes -/
theorem clone_any (s : ByteArray) (hs : s.size ≤ 1000000) (w : World) : Calls Try.prog 31 #[.string s] w fun e w' => e = .returned (.string s) ∧ Below w.heap.size w w' := by
  by_cases h0 : s.size = 0
  · have hz : s = ⟨#[]⟩ := by
      apply ByteArray.ext
      have : s.data.size = 0 := h0
      exact Array.eq_empty_of_size_eq_zero this
    subst hz
    go_enter Try.func31, Try.ntmps31
    go_wp2
    go_ret
    exact ⟨rfl, Below.refl _ _⟩
  · have hmk := make_bytes s.size hs w
    have i0 := Has.fresh w 5 (bs (List.replicate s.size 0))
    have b0 : Below w.heap.size w (w.alloc (.cells (bs (List.replicate s.size 0)) 5)) := (Below.refl _ _).alloc (Nat.le_refl _) _
    have hlen : s.data.toList.length = s.size := by rw [len_list]
    have hcp : (Builtin.copy_ #[60, 9] 3 #[.slice (some ⟨w.heap.size, 0, none⟩) s.size s.size, .string s]).run Try.prog (w.alloc (.cells (bs (List.replicate s.size 0)) 5)) =
        .ok (.int .i64 (s.size : Int)) ((w.alloc (.cells (bs (List.replicate s.size 0)) 5)).setRow w.heap.size (bs s.data.toList)) := by
      have h1 := Lib.run_copy_row_string (P := Try.prog) _ 60 9 3 5 w.heap.size 0 s.size s.size s _ 5 Try.underlying60 (by kernel_rfl) i0 (Nat.le_refl _) (by rw [bs_size]; simp)
      rw [h1]
      have e : ((bs (List.replicate s.size 0)).toList.take 0 ++ Lib.byteCells s.data.toList ++ (bs (List.replicate s.size 0)).toList.drop (0 + s.size)).toArray = bs s.data.toList := by
        rw [List.take_zero, List.nil_append, List.drop_of_length_le (by rw [Array.length_toList, bs_size]; simp), List.append_nil]
        rfl
      rw [e]
      rfl
    have i1 := i0.setRow (bs s.data.toList)
    have b1 := below_setRow b0 (g := w.heap.size) (Nat.le_refl _) (bs s.data.toList)
    generalize (w.alloc (.cells (bs (List.replicate s.size 0)) 5)).setRow w.heap.size (bs s.data.toList) = w1 at hcp i1 b1
    have hus := Lib.run_unsafeString_row (P := Try.prog) (w := w1) 96 3 9 5 (by kernel_rfl) (by kernel_rfl) w.heap.size s.size (by unfold World.shape?; rw [i1]; simp [bs_size, hlen]) s.data.toList (by intro h; rw [h] at hlen; exact h0 hlen.symm) (by omega) (by omega)
      (fun j x hj => by
        have hj2 := (List.getElem?_eq_some_iff.1 hj).1
        rw [addr_add, i1.byte j hj2, List.getD_eq_getElem?_getD, hj]; rfl)
    rw [hlen, str_of] at hus
    have b2 := Lib.below_freeze b1 (p := ⟨w.heap.size, 0, none⟩) (Nat.le_refl _) s.size
    have B2 := Lib.hid b2
    clear b0 b1 b2 i0
    go_enter Try.func31, Try.ntmps31
    go_wp2
    go_ret
    exact ⟨rfl, B2.out⟩
end Go.Proofs.Ythpbhimmfmablaa
