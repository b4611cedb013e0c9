/- What the laws of layer 5 share: a sealed text's parts, and what memory holds in the midst of a law. -/
import Derived.Test.YtfhjokbbaoldiaaYF
import Derived.Test.YtfhjokbbaoldiaaHG
import Derived.OpenShut
namespace Go.Proofs.Ytfhjokbbaoldiaa
open Go.RowKit
theorem ext_lists (a b : ByteArray) (h : a.data.toList = b.data.toList) : a = b := by
  apply ByteArray.ext
  exact Array.toList_inj.1 h
theorem extract_list (s : ByteArray) (i j : Nat) : (s.extract i j).data.toList = (s.data.toList.drop i).take (j - i) := by
  rw [ByteArray.data_extract, Array.toList_extract]
theorem extract_head (A B : List UInt8) : (⟨(A ++ B).toArray⟩ : ByteArray).extract 0 A.length = ⟨A.toArray⟩ := by
  apply ext_lists
  rw [extract_list, str_list, str_list, List.drop_zero, Nat.sub_zero, List.take_left]
theorem extract_tail (A B : List UInt8) (n : Nat) (hn : n = A.length + B.length) : (⟨(A ++ B).toArray⟩ : ByteArray).extract A.length n = ⟨B.toArray⟩ := by
  subst hn
  apply ext_lists
  rw [extract_list, str_list, str_list, List.drop_left, Nat.add_sub_cancel_left, List.take_length]
/-- a sealed text's parts -/
theorem sealed_head (k n b : List UInt8) (s : ByteArray) : (⟨(sealL k n b s.data.toList).toArray⟩ : ByteArray).extract 0 s.size = ⟨(maskT k n s.data.toList).toArray⟩ := by
  have h := extract_head (maskT k n s.data.toList) (tagL k n b (maskT k n s.data.toList))
  rw [maskT_length, len_list] at h
  rw [sealL]
  exact h
theorem sealed_tail (k n b : List UInt8) (s : ByteArray) : (⟨(sealL k n b s.data.toList).toArray⟩ : ByteArray).extract s.size (s.size + 16) = ⟨(tagL k n b (maskT k n s.data.toList)).toArray⟩ := by
  have h := extract_tail (maskT k n s.data.toList) (tagL k n b (maskT k n s.data.toList)) (s.size + 16) (by rw [maskT_length, len_list, tagL_length])
  rw [maskT_length, len_list] at h
  rw [sealL]
  exact h
theorem sealed_size (k n b : List UInt8) (s : ByteArray) : (⟨(sealL k n b s.data.toList).toArray⟩ : ByteArray).size = s.size + 16 := by rw [str_size, sealL_length, len_list]
theorem maskT_twice (k n s : List UInt8) : maskT k n (maskT k n s) = s := by rw [maskT, maskT, mask_twice]
/-- what memory holds in the midst of a law -/
def KEnv (w : World) (k : List UInt8) (W : World) : Prop := Has W w.heap.size 23 (bs k) ∧ Below w.heap.size w W
theorem KEnv.step {w : World} {k : List UInt8} {W W' : World} (h : KEnv w k W) (hb : Below W.heap.size W W') : KEnv w k W' :=
  ⟨h.1.below hb h.1.lt, h.2.trans (hb.mono h.2.size)⟩
theorem KEnv.drew {w : World} {k : List UInt8} {W : World} (h : KEnv w k W) : KEnv w k W.drew := ⟨h.1, h.2.drew⟩
theorem KEnv.fresh (w : World) (k : List UInt8) : KEnv w k (w.alloc (.cells (bs k) 23)) := ⟨Has.fresh w 23 _, (Below.refl _ _).alloc (Nat.le_refl _) _⟩
end Go.Proofs.Ytfhjokbbaoldiaa
