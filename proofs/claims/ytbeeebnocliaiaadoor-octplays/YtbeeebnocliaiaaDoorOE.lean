/- oct.MacText, the document's example: walked. -/
import Derived.Test.YtbeeebnocliaiaaDoorOD
namespace Go.Proofs.YtbeeebnocliaiaaDoor
open Go.RowKit
/-- a station's address as a text -/
def macL (l : List UInt8) : List UInt8 := Lib.join (l.map hexL) [58]
set_option maxRecDepth 20000 in
theorem macText_any (l : List UInt8) (hl : l.length = 6) (w : World) :
    Calls Tryd.prog 12 #[.agg (bs l)] w fun e w' => e = .returned (S9 (macL l)) ∧ Below w.heap.size w w' := by
  have hc := text_any 26 hexL [58] w.heap.size 24 l 6 hl (by omega) (by decide) (w.alloc (.cells (bs l) 24)) (enters_of Tryd.func26 (by kernel_rfl) rfl) (fun b => by show 2 ≤ 8; omega) (Has.fresh w _ _) (fun b W _ => hexadecimal_any b W)
  have hb0 : Below w.heap.size w (w.alloc (.cells (bs l) 24)) := (Below.refl _ _).alloc (Nat.le_refl _) _
  have hR : Lib.join (l.map hexL) [58] = macL l := rfl
  rw [hR] at hc
  have HC := Lib.hid hc
  have HB := Lib.hid hb0
  have hsz : (bs l).size = 6 := by rw [bs_size, hl]
  clear hc hb0 hR
  go_enter Tryd.func12, Tryd.ntmps12
  go_wp2_with (go_at_call 27; refine HC.out.mono ?_; rintro e w1 ⟨rfl, hb1⟩)
  go_ret
  exact ⟨rfl, HB.out.trans (hb1.mono HB.out.size)⟩
theorem mac_example : macL [0, 1, 2, 3, 4, 255] = [48, 48, 58, 48, 49, 58, 48, 50, 58, 48, 51, 58, 48, 52, 58, 102, 102] := by decide
theorem awake_any (w : World) : Calls Tryd.prog 7 #[] w fun e w' => e = .returned (.bool true) ∧ Below w.heap.size w w' := by
  have hc := macText_any [0, 1, 2, 3, 4, 255] rfl w
  rw [mac_example] at hc
  have HC := Lib.hid hc
  clear hc
  go_enter Tryd.func7, Tryd.ntmps7
  go_wp2_with (go_at_call 12; refine HC.out.mono ?_; rintro e w1 ⟨rfl, hb1⟩)
  go_ret
  exact ⟨rfl, hb1⟩
end Go.Proofs.YtbeeebnocliaiaaDoor
