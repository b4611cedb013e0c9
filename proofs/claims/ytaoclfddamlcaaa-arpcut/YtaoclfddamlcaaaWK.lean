/- A question or an answer as an argument: opened and shut again. No program is run here. -/
import Derived.Test.YtaoclfddamlcaaaWI
import Derived.Test.YtaoclfddamlcaaaVQ
namespace Go.Proofs.Ytaoclfddamlcaaa
open Go.ChangeShapes Go.WideShapes Go.ChangeAt Go.RowKit
section
variable {H : Type} {enc : TypeId × Value → H} {W : World} {base : Nat} {spare : Nat → Bool} {held : Bool}
theorem cells_ip {fuel : Nat} {c0 c1 c2 c3 : Value} {y : DataW H × List MemPlace} (h : DataW.trod enc Try.prog W base spare held fuel 24 [c0, c1, c2, c3] = some y) :
    ∃ l : List UInt8, l.length = 4 ∧ [c0, c1, c2, c3] = l.map B8 ∧ y = (.agg (l.map fun x => .lit (.int .u8 (x.toNat : Int))), []) := by
  obtain ⟨xs, m, _, hy, _, hlen, hg⟩ := DataW.trod_array Try.underlying24 h
  rw [show Try.prog.cellsOf 5 = 1 from by kernel_rfl] at hg
  match xs, hlen with
  | [y0, y1, y2, y3], _ =>
    obtain ⟨a0, rfl, rfl⟩ := cell_u8 (c := c0) (y := y0) (by simpa using hg 0 (by omega))
    obtain ⟨a1, rfl, rfl⟩ := cell_u8 (c := c1) (y := y1) (by simpa using hg 1 (by omega))
    obtain ⟨a2, rfl, rfl⟩ := cell_u8 (c := c2) (y := y2) (by simpa using hg 2 (by omega))
    obtain ⟨a3, rfl, rfl⟩ := cell_u8 (c := c3) (y := y3) (by simpa using hg 3 (by omega))
    exact ⟨[a0, a1, a2, a3], rfl, rfl, hy⟩
/-- a question or an answer as data -/
def arpD (x : A9) : DataW H := .agg [.lit (.int .i64 x.op), .agg (x.m.map fun a => .lit (.int .u8 (a.toNat : Int))), .agg (x.t.map fun a => .lit (.int .u8 (a.toNat : Int))), .agg (x.i.map fun a => .lit (.int .u8 (a.toNat : Int))), .agg (x.w.map fun a => .lit (.int .u8 (a.toNat : Int)))]
theorem open_arp {b0 : Nat} {v : Value} {d : DataW H} {p : List MemPlace} (hv : Value.okWide Try.prog W .any b0 26 v) (h : DataW.Trod enc Try.prog W base spare held 26 v d p) :
    ∃ x : A9, v = .agg x.c ∧ d = arpD x ∧ p = [] ∧ x.Fit ∧ (Lit.int .i64 x.op).wf = true := by
  obtain ⟨cs, rfl, hsz⟩ := okWide_struct Try.underlying26 hv
  rw [show Try.prog.cellsOf 26 = 21 from by kernel_rfl] at hsz
  obtain ⟨l⟩ := cs
  match l, hsz with
  | [c0, c1, c2, c3, c4, c5, c6, c7, c8, c9, c10, c11, c12, c13, c14, c15, c16, c17, c18, c19, c20], _ =>
    obtain ⟨fuel, hf⟩ := h
    obtain ⟨xs, n, _, hx, _, hlen, hg⟩ := DataW.trod_struct Try.underlying26 hf
    match xs, hlen with
    | [y0, y1, y2, y3, y4], _ =>
      have g0 := hg 0 _ rfl
      have g1 := hg 1 _ rfl
      have g2 := hg 2 _ rfl
      have g3 := hg 3 _ rfl
      have g4 := hg 4 _ rfl
      simp only [show Try.prog.cellsOf 23 = 6 from by kernel_rfl, show Try.prog.cellsOf 24 = 4 from by kernel_rfl, show Try.prog.cellsOf 3 = 1 from by kernel_rfl, Value.cells, List.drop_succ_cons, List.drop_zero, List.take_succ_cons, List.take_zero, List.getElem?_cons_zero, List.getElem?_cons_succ, List.getElem_toArray, List.getElem_cons_zero, List.getElem_cons_succ] at g0 g1 g2 g3 g4
      obtain ⟨no, hc0, rfl, wo⟩ := DataW.trod_int Try.underlying3 g0
      obtain ⟨lm, hlm, hcm, rfl⟩ := cells_mac g1
      obtain ⟨lt, hlt, hct, rfl⟩ := cells_mac g2
      obtain ⟨li, hli, hci, rfl⟩ := cells_ip g3
      obtain ⟨lw, hlw, hcw, rfl⟩ := cells_ip g4
      simp only [List.cons.injEq, and_true] at hc0
      refine ⟨⟨no, lm, lt, li, lw⟩, ?_, ?_, ?_, ⟨hlm, hlt, hli, hlw⟩, wo⟩
      · unfold A9.c
        congr 1
        rw [List.map_append, List.map_append, List.map_append, ← hcm, ← hct, ← hci, ← hcw, hc0]
        rfl
      · simp only [Prod.mk.injEq] at hx
        rw [hx.1]
        unfold arpD
        simp only [List.map_cons, List.map_nil]
      · simp only [Prod.mk.injEq] at hx
        rw [hx.2]
        simp
theorem trod_ip_mk (m : Nat) (l : List UInt8) (hl : l.length = 4) : DataW.trod enc Try.prog W base spare held (m + 2) 24 (l.map B8) = some (.agg (l.map fun x => .lit (.int .u8 (x.toNat : Int))), []) := by
  match l, hl with
  | [a0, a1, a2, a3], _ =>
    have hu : ∀ a : UInt8, DataW.trod enc Try.prog W base spare held (m + 1) 5 [B8 a] = some (.lit (.int .u8 (a.toNat : Int)), []) := fun a => trod_int_mk m Try.underlying5 (wf8 a)
    unfold DataW.trod
    rw [Try.underlying24]
    have h1 : Try.prog.cellsOf 5 = 1 := by kernel_rfl
    have h4 : Try.prog.cellsOf 24 = 4 := by kernel_rfl
    simp [h1, h4, hu, List.range_succ]
theorem shut_arp (x : A9) (hx : x.Fit) (wo : (Lit.int .i64 x.op).wf = true) : DataW.Trod enc Try.prog W base spare held 26 (.agg x.c) (arpD x) [] := by
  have hmm := trod_mac_mk (enc := enc) (W := W) (base := base) (spare := spare) (held := held) 0 x.m hx.m
  have hmt := trod_mac_mk (enc := enc) (W := W) (base := base) (spare := spare) (held := held) 0 x.t hx.t
  have hmi := trod_ip_mk (enc := enc) (W := W) (base := base) (spare := spare) (held := held) 0 x.i hx.i
  have hmw := trod_ip_mk (enc := enc) (W := W) (base := base) (spare := spare) (held := held) 0 x.w hx.w
  have ho := trod_int_mk (enc := enc) (w := W) (base := base) (spare := spare) (held := held) 1 Try.underlying3 wo
  obtain ⟨m0, m1, m2, m3, m4, m5, t0, t1, t2, t3, t4, t5, i0, i1, i2, i3, k0, k1, k2, k3, em, et, ei, ew⟩ := A9.parts hx
  refine ⟨3, ?_⟩
  unfold arpD
  rw [a9_cells em et ei ew, em, et, ei, ew]
  rw [em] at hmm
  rw [et] at hmt
  rw [ei] at hmi
  rw [ew] at hmw
  have := trod_struct_mk (enc := enc) (w := W) (base := base) (spare := spare) (held := held) (n := 2) (cs := [.int .i64 x.op, B8 m0, B8 m1, B8 m2, B8 m3, B8 m4, B8 m5, B8 t0, B8 t1, B8 t2, B8 t3, B8 t4, B8 t5, B8 i0, B8 i1, B8 i2, B8 i3, B8 k0, B8 k1, B8 k2, B8 k3])
    (xs := [(.lit (.int .i64 x.op), []), (.agg (([m0, m1, m2, m3, m4, m5] : List UInt8).map fun a => .lit (.int .u8 (a.toNat : Int))), []), (.agg (([t0, t1, t2, t3, t4, t5] : List UInt8).map fun a => .lit (.int .u8 (a.toNat : Int))), []), (.agg (([i0, i1, i2, i3] : List UInt8).map fun a => .lit (.int .u8 (a.toNat : Int))), []), (.agg (([k0, k1, k2, k3] : List UInt8).map fun a => .lit (.int .u8 (a.toNat : Int))), [])])
    Try.underlying26 (by rw [show Try.prog.cellsOf 26 = 21 from by kernel_rfl]; rfl) (by
      have h1 : Try.prog.cellsOf 3 = 1 := by kernel_rfl
      have h6 : Try.prog.cellsOf 23 = 6 := by kernel_rfl
      have h4 : Try.prog.cellsOf 24 = 4 := by kernel_rfl
      simp only [List.map_cons, List.map_nil] at hmm hmt hmi hmw ⊢
      simp [h1, h6, h4, hmm, hmt, hmi, hmw, ho])
  simpa [Value.cells] using this
end
end Go.Proofs.Ytaoclfddamlcaaa
