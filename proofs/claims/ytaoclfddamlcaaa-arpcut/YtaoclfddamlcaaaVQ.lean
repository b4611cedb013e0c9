/- A frame as an argument: opened and shut again. No program is run here. -/
import Derived.Test.YtaoclfddamlcaaaVJ
import Derived.Test.YtaoclfddamlcaaaMK
namespace Go.Proofs.Ytaoclfddamlcaaa
open Go.ChangeShapes Go.WideShapes Go.ChangeAt Go.RowKit
section
variable {H : Type} {enc : TypeId × Value → H} {W : World} {base : Nat} {spare : Nat → Bool} {held : Bool}
theorem cell_u8 {m : Nat} {c : Value} {y : DataW H × List MemPlace} (h : DataW.trod enc Try.prog W base spare held m 5 [c] = some y) : ∃ a : UInt8, c = B8 a ∧ y = (.lit (.int .u8 (a.toNat : Int)), []) := by
  obtain ⟨n, hc, hy, hw⟩ := DataW.trod_int Try.underlying5 h
  simp only [List.cons.injEq, and_true] at hc
  have hn := bounds_u8 hw
  refine ⟨UInt8.ofNat n.toNat, ?_, ?_⟩
  · rw [hc]
    show Value.int .u8 n = .int .u8 (((UInt8.ofNat n.toNat).toNat : Nat) : Int)
    rw [UInt8.toNat_ofNat', Nat.mod_eq_of_lt (by omega)]
    congr 1
    omega
  · rw [hy, UInt8.toNat_ofNat', Nat.mod_eq_of_lt (by omega), show ((n.toNat : Nat) : Int) = n from by omega]
theorem cells_mac {fuel : Nat} {c0 c1 c2 c3 c4 c5 : Value} {y : DataW H × List MemPlace} (h : DataW.trod enc Try.prog W base spare held fuel 23 [c0, c1, c2, c3, c4, c5] = some y) :
    ∃ l : List UInt8, l.length = 6 ∧ [c0, c1, c2, c3, c4, c5] = l.map B8 ∧ y = (.agg (l.map fun x => .lit (.int .u8 (x.toNat : Int))), []) := by
  obtain ⟨xs, m, _, hy, _, hlen, hg⟩ := DataW.trod_array Try.underlying23 h
  rw [show Try.prog.cellsOf 5 = 1 from by kernel_rfl] at hg
  match xs, hlen with
  | [y0, y1, y2, y3, y4, y5], _ =>
    obtain ⟨a0, rfl, rfl⟩ := cell_u8 (c := c0) (y := y0) (by simpa using hg 0 (by omega))
    obtain ⟨a1, rfl, rfl⟩ := cell_u8 (c := c1) (y := y1) (by simpa using hg 1 (by omega))
    obtain ⟨a2, rfl, rfl⟩ := cell_u8 (c := c2) (y := y2) (by simpa using hg 2 (by omega))
    obtain ⟨a3, rfl, rfl⟩ := cell_u8 (c := c3) (y := y3) (by simpa using hg 3 (by omega))
    obtain ⟨a4, rfl, rfl⟩ := cell_u8 (c := c4) (y := y4) (by simpa using hg 4 (by omega))
    obtain ⟨a5, rfl, rfl⟩ := cell_u8 (c := c5) (y := y5) (by simpa using hg 5 (by omega))
    exact ⟨[a0, a1, a2, a3, a4, a5], rfl, rfl, hy⟩
/-- a frame as data -/
def ethD (x : E8) : DataW H := .agg [.agg [.agg (x.d.map fun a => .lit (.int .u8 (a.toNat : Int))), .agg (x.s.map fun a => .lit (.int .u8 (a.toNat : Int))), .lit (.int .i64 x.k), .lit (.string x.b.data.toList)], .lit (.int .i64 x.v), .lit (.int .i64 x.p)]
/-- its numbers fit -/
structure E8.Wf (x : E8) : Prop where
  k : (Lit.int .i64 x.k).wf = true
  b : x.b.size ≤ maxLen
  v : (Lit.int .i64 x.v).wf = true
  p : (Lit.int .i64 x.p).wf = true
theorem trod_mac_mk (m : Nat) (l : List UInt8) (hl : l.length = 6) : DataW.trod enc Try.prog W base spare held (m + 2) 23 (l.map B8) = some (.agg (l.map fun x => .lit (.int .u8 (x.toNat : Int))), []) := by
  match l, hl with
  | [a0, a1, a2, a3, a4, a5], _ =>
    have hu : ∀ a : UInt8, DataW.trod enc Try.prog W base spare held (m + 1) 5 [B8 a] = some (.lit (.int .u8 (a.toNat : Int)), []) := fun a => trod_int_mk m Try.underlying5 (wf8 a)
    unfold DataW.trod
    rw [Try.underlying23]
    have h1 : Try.prog.cellsOf 5 = 1 := by kernel_rfl
    have h6 : Try.prog.cellsOf 23 = 6 := by kernel_rfl
    simp [h1, h6, hu, List.range_succ]
end
end Go.Proofs.Ytaoclfddamlcaaa
