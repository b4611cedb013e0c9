/- causeylaw01.awake: the document's example holds, so awake answers true. Condition: the table of constants lies in memory as the program's text lays it. -/
import Derived.Test.YtpkmhdnpnbkhiaaDoorI
import Derived.Test.YtpkmhdnpnbkhiaaDoorJ
namespace Go.Proofs.YtpkmhdnpnbkhiaaDoor
open Go.RowKit
def abcKey : List UInt8 := [0xba, 0x78, 0x16, 0xbf, 0x8f, 0x01, 0xcf, 0xea, 0x41, 0x41, 0x40, 0xde, 0x5d, 0xae, 0x22, 0x23, 0xb0, 0x03, 0x61, 0xa3, 0x96, 0x17, 0x7a, 0x9c, 0xb4, 0x10, 0xff, 0x61, 0xf2, 0x00, 0x15, 0xad]
theorem abc_key : keyL (sumW [97, 98, 99]) = abcKey := abc_sum
theorem abc_same (w : World) : (Op.equalIn 10000 32 (.agg (bs abcKey)) (.agg #[.int .u8 186, .int .u8 120, .int .u8 22, .int .u8 191, .int .u8 143, .int .u8 1, .int .u8 207, .int .u8 234, .int .u8 65, .int .u8 65, .int .u8 64, .int .u8 222, .int .u8 93, .int .u8 174, .int .u8 34, .int .u8 35, .int .u8 176, .int .u8 3, .int .u8 97, .int .u8 163, .int .u8 150, .int .u8 23, .int .u8 122, .int .u8 156, .int .u8 180, .int .u8 16, .int .u8 255, .int .u8 97, .int .u8 242, .int .u8 0, .int .u8 21, .int .u8 173])).run Tryd.prog w = .ok true w := by
  have h := eq_bytes (P := Tryd.prog) w 32 5 32 Tryd.underlying32 Tryd.underlying5 (by kernel_rfl) abcKey abcKey rfl rfl
  have hself : (abcKey == abcKey) = true := by simp
  rw [hself] at h
  exact h
set_option maxHeartbeats 400000 in
theorem awake_any (w : World) (hK : HasK w) : Calls Tryd.prog 10 #[] w fun e w' => e = .returned (.bool true) ∧ Below w.heap.size w w' := by
  have hc := sum_any ⟨#[97, 98, 99]⟩ (by decide) w hK
  have e : (⟨#[97, 98, 99]⟩ : ByteArray).data.toList = [97, 98, 99] := rfl
  rw [e, abc_key] at hc
  have HC := Lib.hid hc
  clear hc e
  have heq := abc_same
  go_enter Tryd.func10, Tryd.ntmps10
  go_wp2_with (go_at_call 15; refine HC.out.mono ?_; rintro e w1 ⟨rfl, hb1⟩)
  go_ret
  exact ⟨rfl, hb1⟩
end Go.Proofs.YtpkmhdnpnbkhiaaDoor
