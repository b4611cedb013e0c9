/- A frame as an argument: opened and shut again. No program is run here. -/
import Derived.Test.YtphdlldmeniihaaVJ
import Derived.Test.YtphdlldmeniihaaMK
namespace Go.Proofs.Ytphdlldmeniihaa
open Go.ChangeShapes Go.WideShapes Go.ChangeAt Go.RowKit
section
variable {H : Type} {enc : TypeId × Value → H} {W : World} {base : Nat} {spare : Nat → Bool} {held : Bool}
theorem cell_u8 {m : Nat} {c : Value} {y : DataW H × List MemPlace} (h : DataW.trod enc Try.prog W base spare held m 5 [c] = some y) : ∃ a : UInt8, c = B8 a ∧ y = (.lit (.int .u8 (a.toNat : Int)), []) := by
  obtain ⟨n, hc, hy, hw⟩ := DataW.trod_int Try.underlying5 h
  simp only [List.cons.injEq, and_true] at hc
  have hn := bounds_u8 hw
  refine ⟨UInt8.ofNat n.toNat, ?_, ?_⟩
  · rw [hc]
    show Value.int .u8 n = .int .u8 (((UInt8.ofNat n.toNat).toNat : Nat) : Int)
    rw [UInt8.toNat_ofNat', Nat.mod_eq_of_lt (by omega)]
    congr 1
    omega
  · rw [hy, UInt8.toNat_ofNat', Nat.mod_eq_of_lt (by omega), show ((n.toNat : Nat) : Int) = n from by omega]
theorem cells_mac {fuel : Nat} {c0 c1 c2 c3 c4 c5 : Value} {y : DataW H × List MemPlace} (h : DataW.trod enc Try.prog W base spare held fuel 23 [c0, c1, c2, c3, c4, c5] = some y) :
    ∃ l : List UInt8, l.length = 6 ∧ [c0, c1, c2, c3, c4, c5] = l.map B8 ∧ y = (.agg (l.map fun x => .lit (.int .u8 (x.toNat : Int))), []) := by
  obtain ⟨xs, m, _, hy, _, hlen, hg⟩ := DataW.trod_array Try.underlying23 h
  rw [show Try.prog.cellsOf 5 = 1 from by kernel_rfl] at hg
  match xs, hlen with
  | [y0, y1, y2, y3, y4, y5], _ =>
    obtain ⟨a0, rfl, rfl⟩ := cell_u8 (c := c0) (y := y0) (by simpa using hg 0 (by omega))
    obtain ⟨a1, rfl, rfl⟩ := cell_u8 (c := c1) (y := y1) (by simpa using hg 1 (by omega))
    obtain ⟨a2, rfl, rfl⟩ := cell_u8 (c := c2) (y := y2) (by simpa using hg 2 (by omega))
    obtain ⟨a3, rfl, rfl⟩ := cell_u8 (c := c3) (y := y3) (by simpa using hg 3 (by omega))
    obtain ⟨a4, rfl, rfl⟩ := cell_u8 (c := c4) (y := y4) (by simpa using hg 4 (by omega))
    obtain ⟨a5, rfl, rfl⟩ := cell_u8 (c := c5) (y := y5) (by simpa using hg 5 (by omega))
    exact ⟨[a0, a1, a2, a3, a4, a5], rfl, rfl, hy⟩
/-- a frame as data -/
def ethD (x : E8) : DataW H := .agg [.agg [.agg (x.d.map fun a => .lit (.int .u8 (a.toNat : Int))), .agg (x.s.map fun a => .lit (.int .u8 (a.toNat : Int))), .lit (.int .i64 x.k), .lit (.string x.b.data.toList)], .lit (.int .i64 x.v), .lit (.int .i64 x.p)]
/-- its numbers fit -/
structure E8.Wf (x : E8) : Prop where
  k : (Lit.int .i64 x.k).wf = true
  b : x.b.size ≤ maxLen
  v : (Lit.int .i64 x.v).wf = true
  p : (Lit.int .i64 x.p).wf = true
theorem open_eth {b0 : Nat} {v : Value} {d : DataW H} {p : List MemPlace} (hv : Value.okWide Try.prog W .any b0 27 v) (h : DataW.Trod enc Try.prog W base spare held 27 v d p) :
    ∃ x : E8, v = .agg x.c ∧ d = ethD x ∧ p = [] ∧ x.Six ∧ x.Wf := by
  obtain ⟨cs, rfl, hsz⟩ := okWide_struct Try.underlying27 hv
  rw [show Try.prog.cellsOf 27 = 16 from by kernel_rfl] at hsz
  obtain ⟨l⟩ := cs
  match l, hsz with
  | [c0, c1, c2, c3, c4, c5, c6, c7, c8, c9, c10, c11, c12, c13, c14, c15], _ =>
    obtain ⟨fuel, hf⟩ := h
    obtain ⟨xs, n, _, hx, _, hlen, hg⟩ := DataW.trod_struct Try.underlying27 hf
    match xs, hlen with
    | [y0, y1, y2], _ =>
      have g0 := hg 0 _ rfl
      have g1 := hg 1 _ rfl
      have g2 := hg 2 _ rfl
      simp only [show Try.prog.cellsOf 25 = 14 from by kernel_rfl, show Try.prog.cellsOf 3 = 1 from by kernel_rfl, Value.cells, List.drop_succ_cons, List.drop_zero, List.take_succ_cons, List.take_zero, List.getElem?_cons_zero, List.getElem?_cons_succ, List.getElem_toArray, List.getElem_cons_zero, List.getElem_cons_succ] at g0 g1 g2
      obtain ⟨nv, hc14, rfl, wv⟩ := DataW.trod_int Try.underlying3 g1
      obtain ⟨np, hc15, rfl, wp⟩ := DataW.trod_int Try.underlying3 g2
      simp only [List.cons.injEq, and_true] at hc14 hc15
      obtain ⟨zs, n2, _, hz, _, hlen2, hg2⟩ := DataW.trod_struct Try.underlying25 g0
      match zs, hlen2 with
      | [z0, z1, z2, z3], _ =>
        have k0 := hg2 0 _ rfl
        have k1 := hg2 1 _ rfl
        have k2 := hg2 2 _ rfl
        have k3 := hg2 3 _ rfl
        simp only [show Try.prog.cellsOf 23 = 6 from by kernel_rfl, show Try.prog.cellsOf 3 = 1 from by kernel_rfl, show Try.prog.cellsOf 9 = 1 from by kernel_rfl, List.drop_succ_cons, List.drop_zero, List.take_succ_cons, List.take_zero, List.getElem?_cons_zero, List.getElem?_cons_succ, List.getElem_toArray, List.getElem_cons_zero, List.getElem_cons_succ] at k0 k1 k2 k3
        obtain ⟨ld, hld, hcd, rfl⟩ := cells_mac k0
        obtain ⟨ls, hls, hcs, rfl⟩ := cells_mac k1
        obtain ⟨nk, hc12, rfl, wk⟩ := DataW.trod_int Try.underlying3 k2
        obtain ⟨sb, hc13, rfl, wb⟩ := DataW.trod_string Try.underlying9 k3
        simp only [List.cons.injEq, and_true] at hc12 hc13
        refine ⟨⟨ld, ls, nk, sb, nv, np⟩, ?_, ?_, ?_, ⟨hld, hls⟩, ⟨wk, wb, wv, wp⟩⟩
        · unfold E8.c
          congr 1
          rw [List.map_append, ← hcd, ← hcs, hc12, hc13, hc14, hc15]
          rfl
        · simp only [Prod.mk.injEq] at hx hz
          rw [hx.1]
          unfold ethD
          simp only [List.map_cons, List.map_nil, hz]
        · simp only [Prod.mk.injEq] at hx hz
          rw [hx.2]
          simp [hz]
theorem trod_mac_mk (m : Nat) (l : List UInt8) (hl : l.length = 6) : DataW.trod enc Try.prog W base spare held (m + 2) 23 (l.map B8) = some (.agg (l.map fun x => .lit (.int .u8 (x.toNat : Int))), []) := by
  match l, hl with
  | [a0, a1, a2, a3, a4, a5], _ =>
    have hu : ∀ a : UInt8, DataW.trod enc Try.prog W base spare held (m + 1) 5 [B8 a] = some (.lit (.int .u8 (a.toNat : Int)), []) := fun a => trod_int_mk m Try.underlying5 (wf8 a)
    unfold DataW.trod
    rw [Try.underlying23]
    have h1 : Try.prog.cellsOf 5 = 1 := by kernel_rfl
    have h6 : Try.prog.cellsOf 23 = 6 := by kernel_rfl
    simp [h1, h6, hu, List.range_succ]
theorem shut_eth (x : E8) (hx : x.Six) (wf : x.Wf) : DataW.Trod enc Try.prog W base spare held 27 (.agg x.c) (ethD x) [] := by
  obtain ⟨a0, a1, a2, a3, a4, a5, b0, b1, b2, b3, b4, b5, hd, hs⟩ := six_cases hx
  refine ⟨4, ?_⟩
  rw [cells_of hd hs]
  have hmd := trod_mac_mk (enc := enc) (W := W) (base := base) (spare := spare) (held := held) 0 x.d hx.d
  have hms := trod_mac_mk (enc := enc) (W := W) (base := base) (spare := spare) (held := held) 0 x.s hx.s
  have hk := trod_int_mk (enc := enc) (w := W) (base := base) (spare := spare) (held := held) 1 Try.underlying3 wf.k
  have hv := trod_int_mk (enc := enc) (w := W) (base := base) (spare := spare) (held := held) 2 Try.underlying3 wf.v
  have hp := trod_int_mk (enc := enc) (w := W) (base := base) (spare := spare) (held := held) 2 Try.underlying3 wf.p
  have hb : DataW.trod enc Try.prog W base spare held 2 9 [.string x.b] = some (.lit (.string x.b.data.toList), []) := by
    simp [DataW.trod, Try.underlying9, wf.b]
  rw [hd] at hmd
  rw [hs] at hms
  have hF : DataW.trod enc Try.prog W base spare held 3 25 [B8 a0, B8 a1, B8 a2, B8 a3, B8 a4, B8 a5, B8 b0, B8 b1, B8 b2, B8 b3, B8 b4, B8 b5, .int .i64 x.k, .string x.b] =
      some (.agg [.agg (x.d.map fun a => .lit (.int .u8 (a.toNat : Int))), .agg (x.s.map fun a => .lit (.int .u8 (a.toNat : Int))), .lit (.int .i64 x.k), .lit (.string x.b.data.toList)], []) := by
    have := trod_struct_mk (enc := enc) (w := W) (base := base) (spare := spare) (held := held) (n := 2) (cs := [B8 a0, B8 a1, B8 a2, B8 a3, B8 a4, B8 a5, B8 b0, B8 b1, B8 b2, B8 b3, B8 b4, B8 b5, .int .i64 x.k, .string x.b])
      (xs := [(.agg (x.d.map fun a => .lit (.int .u8 (a.toNat : Int))), []), (.agg (x.s.map fun a => .lit (.int .u8 (a.toNat : Int))), []), (.lit (.int .i64 x.k), []), (.lit (.string x.b.data.toList), [])])
      Try.underlying25 (by rw [show Try.prog.cellsOf 25 = 14 from by kernel_rfl]; rfl) (by
        have h1 : Try.prog.cellsOf 3 = 1 := by kernel_rfl
        have h9 : Try.prog.cellsOf 9 = 1 := by kernel_rfl
        have h6 : Try.prog.cellsOf 23 = 6 := by kernel_rfl
        simp only [List.map_cons, List.map_nil, hd, hs] at hmd hms ⊢
        simp [h1, h6, h9, hmd, hms, hk, hb])
    simpa using this
  have := trod_struct_mk (enc := enc) (w := W) (base := base) (spare := spare) (held := held) (n := 3) (cs := [B8 a0, B8 a1, B8 a2, B8 a3, B8 a4, B8 a5, B8 b0, B8 b1, B8 b2, B8 b3, B8 b4, B8 b5, .int .i64 x.k, .string x.b, .int .i64 x.v, .int .i64 x.p])
    (xs := [(.agg [.agg (x.d.map fun a => .lit (.int .u8 (a.toNat : Int))), .agg (x.s.map fun a => .lit (.int .u8 (a.toNat : Int))), .lit (.int .i64 x.k), .lit (.string x.b.data.toList)], []), (.lit (.int .i64 x.v), []), (.lit (.int .i64 x.p), [])])
    Try.underlying27 (by rw [show Try.prog.cellsOf 27 = 16 from by kernel_rfl]; rfl) (by
      have h1 : Try.prog.cellsOf 3 = 1 := by kernel_rfl
      have h14 : Try.prog.cellsOf 25 = 14 := by kernel_rfl
      simp [h1, h14, hF, hv, hp])
  simpa [ethD, Value.cells] using this
end
end Go.Proofs.Ytphdlldmeniihaa
