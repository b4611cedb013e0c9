/- The laws' awake: walked. -/
import Derived.Test.YthpbhimmfmablaaTUD
import Derived.Test.YthpbhimmfmablaaTUE
namespace Go.Proofs.Ythpbhimmfmablaa
open Go.RowKit
theorem pieceB_size (n : Nat) (s : ByteArray) (c i : Nat) (h : i * 512 ≤ s.size) : (pieceB n s c i).size = 7 + (min (i * 512 + 512) s.size - i * 512) := by
  unfold pieceB
  rw [cat_size, ByteArray.size_extract, List.length_append, List.length_append, List.length_cons, beTail_length]
  simp only [List.length_cons, List.length_nil]
  omega
set_option maxRecDepth 20000 in
set_option maxHeartbeats 1000000 in
theorem awake12_any (w : World) : Calls Try.prog 9 #[] w fun e w' => e = .returned (.bool true) ∧ Below w.heap.size w w' := by
  have hmk : (Instr.makeSlice 60 (.int .i64 600) (.int .i64 600)).run Try.prog w = .ok (.slice (some ⟨w.heap.size, 0, none⟩) 600 600) (w.alloc (.cells (bs (List.replicate 600 0)) 5)) := make_bytes 600 (by omega) w
  have hcv := conv_bytes (Has.fresh w 5 (bs (List.replicate 600 0))) 600 600 (by rw [List.length_replicate])
  have hz : (⟨(List.replicate 600 (0 : UInt8)).toArray⟩ : ByteArray).size = 600 := by rw [str_size, List.length_replicate]
  have hc := fun W => cut_any 1 (by omega) (⟨(List.replicate 600 (0 : UInt8)).toArray⟩ : ByteArray) (by rw [hz]; omega) (by rw [hz]; omega) W
  have hl := cutL_length 1 (⟨(List.replicate 600 (0 : UInt8)).toArray⟩ : ByteArray)
  have hp : pieceN (⟨(List.replicate 600 (0 : UInt8)).toArray⟩ : ByteArray).size = 2 := by rw [hz]; rfl
  have g0 := cutL_get 1 (⟨(List.replicate 600 (0 : UInt8)).toArray⟩ : ByteArray) 0 (by rw [hp]; omega)
  have g1 := cutL_get 1 (⟨(List.replicate 600 (0 : UInt8)).toArray⟩ : ByteArray) 1 (by rw [hp]; omega)
  have s0 : ((cutL 1 (⟨(List.replicate 600 (0 : UInt8)).toArray⟩ : ByteArray)).getD 0 ⟨#[]⟩).size = 519 := by rw [g0, pieceB_size _ _ _ _ (by omega), hz]; rfl
  have s1 : ((cutL 1 (⟨(List.replicate 600 (0 : UInt8)).toArray⟩ : ByteArray)).getD 1 ⟨#[]⟩).size = 95 := by rw [g1, pieceB_size _ _ _ _ (by rw [hz]; omega), hz]; rfl
  rw [hp] at hc hl
  clear g0 g1 hp hz
  have b0 : Below w.heap.size w (w.alloc (.cells (bs (List.replicate 600 0)) 5)) := (Below.refl _ _).alloc (Nat.le_refl _) _
  generalize w.alloc (.cells (bs (List.replicate 600 0)) 5) = W0 at *
  generalize (⟨(List.replicate 600 (0 : UInt8)).toArray⟩ : ByteArray) = Z at *
  generalize cutL 1 Z = L at *
  have hq : Calls Try.prog 12 #[.int .u32 1, .string Z] W0 _ := hc W0
  clear hc
  have HQ := Lib.hid hq
  have HL := Lib.hid hl
  have HS0 := Lib.hid s0
  have HS1 := Lib.hid s1
  clear hq hl s0 s1
  go_enter Try.func9, Try.ntmps9
  go_wp2_with fail
  refine HQ.out.mono ?_
  rintro e w1 ⟨rfl, hb1, hh⟩
  have c0 := hh.text 0 (by rw [HL.out]; omega)
  have c1 := hh.text 1 (by rw [HL.out]; omega)
  have e0 : (((L.getD 0 ⟨#[]⟩).size : Int) == 519) = true := by rw [HS0.out]; rfl
  have e1 : (((L.getD 1 ⟨#[]⟩).size : Int) == 95) = true := by rw [HS1.out]; rfl
  generalize L.getD 0 ⟨#[]⟩ = p0 at c0 e0
  generalize L.getD 1 ⟨#[]⟩ = p1 at c1 e1
  have HB := Lib.hid (b0.trans (hb1.mono b0.size))
  clear hh hb1 b0 hmk hcv
  go_wp2
  go_ret
  exact ⟨rfl, HB.out⟩
end Go.Proofs.Ythpbhimmfmablaa
