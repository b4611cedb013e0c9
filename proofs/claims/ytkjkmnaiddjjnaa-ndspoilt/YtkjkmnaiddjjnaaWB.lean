/- ether.Print: whatever the frame. -/
import Derived.Test.YtkjkmnaiddjjnaaVK
namespace Go.Proofs.Ytkjkmnaiddjjnaa
open Go.RowKit
/-- what Print answers -/
def printF (x : E8) : List UInt8 × Int := if x.right then (x.bytes, 0) else ([], 3)
/-- Print, whatever the frame -/
theorem print_any (x : E8) (hx : x.Six) (w : World) :
    Calls Try.prog 14 #[.agg x.c] w fun e w' => e = .returned (.tuple #[.string ⟨(printF x).1.toArray⟩, .int .i64 (printF x).2]) ∧ Below w.heap.size w w' := by
  unfold printF
  by_cases hr : x.right = true
  · rw [if_pos hr]
    obtain ⟨h1, h2, h3⟩ := right_spec hr
    have hk : x.kind < 65536 ∧ ((x.k = 0 ∧ x.b.size = x.kind) ∨ (x.k ≠ 0 ∧ x.k = x.kind)) := by
      unfold E8.kind
      rcases rightT_spec h1 with hk | hk
      · rw [if_pos hk]; exact ⟨by omega, Or.inl ⟨hk, rfl⟩⟩
      · rw [if_neg (by omega)]; exact ⟨by omega, Or.inr ⟨by omega, by omega⟩⟩
    have ht : x.tag.length ≤ 4 ∧ ∀ W, Calls Try.prog 24 #[.agg x.c] W fun e w' => e = .returned (.string ⟨x.tag.toArray⟩) ∧ Below W.heap.size W w' := by
      rcases h3 with ⟨hv, hp⟩ | ⟨V, Q, hv, hp, hV, hQ⟩
      · have ht : x.tag = [] := by unfold E8.tag; rw [if_pos hv]
        rw [ht]
        exact ⟨by simp, fun W => tagOf_none x hx hv W⟩
      · have ht : x.tag = tagL V Q := by unfold E8.tag; rw [if_neg (by omega), hv, hp]; rfl
        rw [ht]
        exact ⟨by rw [tagL_length]; omega, fun W => tagOf_tag x hx V Q hV hQ hv hp W⟩
    exact print_yes x hx hr x.kind hk.1 hk.2 x.tag ht.1 ht.2 h2 x.bytes rfl w
  · rw [if_neg hr]
    exact print_no x hx (by simpa using hr) w
end Go.Proofs.Ytkjkmnaiddjjnaa
