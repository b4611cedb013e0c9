/- causeylaw05.awake: walked. -/
import Derived.Test.YtfhjokbbaoldiaaYE
namespace Go.Proofs.Ytfhjokbbaoldiaa
open Go.RowKit
set_option maxRecDepth 20000 in
set_option maxHeartbeats 400000 in
theorem awake5_any (w : World) : Calls Try.prog 10 #[] w fun e w' => e = .returned (.bool true) ∧ Below w.heap.size w w' := by
  have h1 := nonce_any 1
  have h2 := seal_any (List.replicate 32 0) (by simp) ⟨(nonceL 1).toArray⟩ ⟨#[]⟩ ⟨#[]⟩ (by rw [str_size, nonceL_length]) (by decide) (by decide)
  have hl : (sealL (List.replicate 32 0) (⟨(nonceL 1).toArray⟩ : ByteArray).data.toList (⟨#[]⟩ : ByteArray).data.toList (⟨#[]⟩ : ByteArray).data.toList).length = 16 := by rw [sealL_length]; rfl
  generalize sealL (List.replicate 32 0) (⟨(nonceL 1).toArray⟩ : ByteArray).data.toList (⟨#[]⟩ : ByteArray).data.toList (⟨#[]⟩ : ByteArray).data.toList = S at h2 hl
  generalize nonceL 1 = N at h1 h2
  have H1 := Lib.hid h1
  have H2 := Lib.hid h2
  have hs : (((⟨S.toArray⟩ : ByteArray).size : Nat) : Int) = 16 := by rw [str_size, hl]; rfl
  clear h1 h2 hl
  generalize (⟨S.toArray⟩ : ByteArray) = SS at *
  go_enter Try.func10, Try.ntmps10
  go_wp2_with fail
  refine (H1.out _).mono ?_
  rintro e w1 ⟨rfl, hb⟩
  go_wp2_with fail
  refine (H2.out _).mono ?_
  rintro e w2 ⟨rfl, hb1⟩
  replace hb := hb.trans (hb1.mono hb.size)
  clear hb1
  go_wp2
  go_ret
  exact ⟨rfl, hb⟩
end Go.Proofs.Ytfhjokbbaoldiaa
