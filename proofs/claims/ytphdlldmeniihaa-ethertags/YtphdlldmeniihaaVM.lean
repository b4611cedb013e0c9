/- The law's awake: walked. -/
import Derived.Test.YtphdlldmeniihaaVL
namespace Go.Proofs.Ytphdlldmeniihaa
open Go.RowKit
/-- the document's example, with zero addresses -/
def xw : E8 := ⟨o6, o6, 2048, ⟨#[]⟩, -1, 0⟩
theorem xw_six : xw.Six := ⟨rfl, rfl⟩
theorem xw_parse : parseF ⟨xw.bytes.toArray⟩ = (0, xw) := parse_bytes xw_six (by decide)
theorem xw_bytes : xw.bytes = [0, 0, 0, 0, 0, 0, 0, 0, 0, 0, 0, 0, 8, 0] := by decide +kernel
set_option maxRecDepth 20000 in
theorem awake_any (w : World) : Calls Try.prog 7 #[] w fun e w' => e = .returned (.bool true) ∧ Below w.heap.size w w' := by
  have hmk := make_bytes 12 (by omega) w
  have i0 := Has.fresh w 5 (bs (List.replicate 12 0))
  have hb0 : Below w.heap.size w (w.alloc (.cells (bs (List.replicate 12 0)) 5)) := (Below.refl _ _).alloc (Nat.le_refl _) _
  have hcv := conv_bytes i0 12 12 (by simp)
  have hc := fun W => parse_any ⟨xw.bytes.toArray⟩ (by rw [xw_bytes]; decide) W
  rw [xw_parse] at hc
  have hs : (⟨(List.replicate 12 (0 : UInt8)).toArray⟩ : ByteArray) ++ ⟨#[8, 0]⟩ = ⟨xw.bytes.toArray⟩ := by rw [xw_bytes]; rfl
  have HC := Lib.hid hc
  clear hc i0
  generalize w.alloc (.cells (bs (List.replicate 12 0)) 5) = W0 at hmk hb0 hcv
  rw [show ((12 : Nat) : Int) = 12 from rfl] at hmk
  have hz : (⟨(List.replicate 12 (0 : UInt8)).toArray⟩ : ByteArray).size = 12 := rfl
  generalize (⟨(List.replicate 12 (0 : UInt8)).toArray⟩ : ByteArray) = A0 at hcv hs hz
  go_enter Try.func7, Try.ntmps7
  go_wp2_with fail
  refine (HC.out _).mono ?_
  rw [show xw.c = #[.int .u8 0, .int .u8 0, .int .u8 0, .int .u8 0, .int .u8 0, .int .u8 0, .int .u8 0, .int .u8 0, .int .u8 0, .int .u8 0, .int .u8 0, .int .u8 0, .int .i64 2048, .string ⟨#[]⟩, .int .i64 (-1), .int .i64 0] from rfl]
  rintro e w1 ⟨rfl, hb1⟩
  have HB := Lib.hid (hb0.trans (hb1.mono hb0.size))
  clear hb0 hb1 hmk hcv hs hz
  go_wp2
  go_ret
  exact ⟨rfl, HB.out.alloc HB.out.size _⟩
end Go.Proofs.Ytphdlldmeniihaa
