/- A neighbour's question or answer as an argument: opened and shut again. No program is run here. -/
import Derived.Test.YtkjkmnaiddjjnaaLP
import Derived.Test.YtkjkmnaiddjjnaaLA
namespace Go.Proofs.Ytkjkmnaiddjjnaa
open Go.ChangeShapes Go.WideShapes Go.ChangeAt Go.RowKit
section
variable {H : Type} {enc : TypeId × Value → H} {W : World} {base : Nat} {spare : Nat → Bool} {held : Bool}
/-- a question or an answer as data -/
def ndD (x : N10) : DataW H := .agg [.lit (.int .i64 x.op), bytesD x.f, bytesD x.t, bytesD x.a, bytesD x.m, .lit (.bool x.h), bytesD x.g]
theorem open_nd {b0 : Nat} {v : Value} {d : DataW H} {p : List MemPlace} (hv : Value.okWide Try.prog W .any b0 27 v) (h : DataW.Trod enc Try.prog W base spare held 27 v d p) :
    ∃ x : N10, v = .agg x.c ∧ d = ndD x ∧ p = [] ∧ x.Fit ∧ (Lit.int .i64 x.op).wf = true := by
  obtain ⟨cs, rfl, hsz⟩ := okWide_struct Try.underlying27 hv
  rw [show Try.prog.cellsOf 27 = 60 from by kernel_rfl] at hsz
  obtain ⟨l⟩ := cs
  obtain ⟨fuel, hf⟩ := h
  obtain ⟨xs, n, _, hx, hl, hlen, hg⟩ := DataW.trod_struct Try.underlying27 hf
  match xs, hlen with
  | [y0, y1, y2, y3, y4, y5, y6], _ =>
    have c16 : Try.prog.cellsOf 22 = 16 := by kernel_rfl
    have c6 : Try.prog.cellsOf 24 = 6 := by kernel_rfl
    have c4 : Try.prog.cellsOf 25 = 4 := by kernel_rfl
    have c1 : Try.prog.cellsOf 3 = 1 := by kernel_rfl
    have c0 : Try.prog.cellsOf 4 = 1 := by kernel_rfl
    have cu : Try.prog.cellsOf 5 = 1 := by kernel_rfl
    have g0 := hg 0 _ rfl
    have g1 := hg 1 _ rfl
    have g2 := hg 2 _ rfl
    have g3 := hg 3 _ rfl
    have g4 := hg 4 _ rfl
    have g5 := hg 5 _ rfl
    have g6 := hg 6 _ rfl
    simp only [Value.cells, c16, c6, c4, c1, c0, List.getElem?_cons_zero, List.getElem?_cons_succ, List.getElem_toArray, List.getElem_cons_zero, List.getElem_cons_succ] at g0 g1 g2 g3 g4 g5 g6
    obtain ⟨no, h0, rfl, wo⟩ := DataW.trod_int Try.underlying3 g0
    obtain ⟨lf, hlf, h1, rfl⟩ := cells_bytes Try.underlying22 Try.underlying5 cu c16 g1
    obtain ⟨lt, hlt, h2, rfl⟩ := cells_bytes Try.underlying22 Try.underlying5 cu c16 g2
    obtain ⟨la, hla, h3, rfl⟩ := cells_bytes Try.underlying22 Try.underlying5 cu c16 g3
    obtain ⟨lm, hlm, h4, rfl⟩ := cells_bytes Try.underlying24 Try.underlying5 cu c6 g4
    obtain ⟨bh, h5, rfl⟩ := cells_bool Try.underlying4 g5
    obtain ⟨lg, hlg, h6, rfl⟩ := cells_bytes Try.underlying25 Try.underlying5 cu c4 g6
    have hend : l.drop 60 = [] := List.drop_of_length_le (by
      have : l.length = 60 := hsz
      omega)
    have hall : l = [Value.int .i64 no] ++ (lf.map B8 ++ (lt.map B8 ++ (la.map B8 ++ (lm.map B8 ++ ([Value.bool bh] ++ (lg.map B8 ++ [])))))) := by
      have e0 : l = l.drop 0 := rfl
      rw [e0, drop_cut l 0 1, h0, drop_cut l (0 + 1) 16, h1, drop_cut l (0 + 1 + 16) 16, h2, drop_cut l (0 + 1 + 16 + 16) 16, h3, drop_cut l (0 + 1 + 16 + 16 + 16) 6, h4, drop_cut l (0 + 1 + 16 + 16 + 16 + 6) 1, h5, drop_cut l (0 + 1 + 16 + 16 + 16 + 6 + 1) 4, h6, hend]
    refine ⟨⟨no, lf, lt, la, lm, bh, lg⟩, ?_, ?_, ?_, ⟨hlf, hlt, hla, hlm, hlg⟩, wo⟩
    · rw [hall]
      unfold N10.c segC N10.segs
      simp
    · simp only [Prod.mk.injEq] at hx
      rw [hx.1]
      rfl
    · simp only [Prod.mk.injEq] at hx
      rw [hx.2]
      simp
theorem shut_nd (x : N10) (hx : x.Fit) (wo : (Lit.int .i64 x.op).wf = true) : DataW.Trod enc Try.prog W base spare held 27 (.agg x.c) (ndD x) [] := by
  have c16 : Try.prog.cellsOf 22 = 16 := by kernel_rfl
  have c6 : Try.prog.cellsOf 24 = 6 := by kernel_rfl
  have c4 : Try.prog.cellsOf 25 = 4 := by kernel_rfl
  have c1 : Try.prog.cellsOf 3 = 1 := by kernel_rfl
  have c0 : Try.prog.cellsOf 4 = 1 := by kernel_rfl
  have cu : Try.prog.cellsOf 5 = 1 := by kernel_rfl
  have ho := trod_int_mk (enc := enc) (w := W) (base := base) (spare := spare) (held := held) 1 Try.underlying3 wo
  have hb := trod_bool_mk (enc := enc) (W := W) (base := base) (spare := spare) (held := held) 1 Try.underlying4 x.h
  have hf := trod_bytes_mk (enc := enc) (W := W) (base := base) (spare := spare) (held := held) 0 Try.underlying22 Try.underlying5 cu c16 x.f hx.f
  have ht := trod_bytes_mk (enc := enc) (W := W) (base := base) (spare := spare) (held := held) 0 Try.underlying22 Try.underlying5 cu c16 x.t hx.t
  have ha := trod_bytes_mk (enc := enc) (W := W) (base := base) (spare := spare) (held := held) 0 Try.underlying22 Try.underlying5 cu c16 x.a hx.a
  have hm := trod_bytes_mk (enc := enc) (W := W) (base := base) (spare := spare) (held := held) 0 Try.underlying24 Try.underlying5 cu c6 x.m hx.m
  have hg := trod_bytes_mk (enc := enc) (W := W) (base := base) (spare := spare) (held := held) 0 Try.underlying25 Try.underlying5 cu c4 x.g hx.g
  have s0 : (x.c.toList.drop 0).take 1 = [Value.int .i64 x.op] := seg_part (L := x.segs) (i := 0) rfl rfl
  have s5 : (x.c.toList.drop 55).take 1 = [Value.bool x.h] := seg_part (L := x.segs) (i := 5) rfl (N10.at5 hx)
  have s1 : (x.c.toList.drop 1).take 16 = x.f.map B8 := by
    have := seg_part (L := x.segs) (i := 1) (off := 1) (B := x.f.map B8) rfl rfl
    rw [List.length_map, hx.f] at this
    exact this
  have s2 : (x.c.toList.drop 17).take 16 = x.t.map B8 := by
    have := seg_part (L := x.segs) (i := 2) (B := x.t.map B8) rfl (N10.at2 hx)
    rw [List.length_map, hx.t] at this
    exact this
  have s3 : (x.c.toList.drop 33).take 16 = x.a.map B8 := by
    have := seg_part (L := x.segs) (i := 3) (B := x.a.map B8) rfl (N10.at3 hx)
    rw [List.length_map, hx.a] at this
    exact this
  have s4 : (x.c.toList.drop 49).take 6 = x.m.map B8 := by
    have := seg_part (L := x.segs) (i := 4) (B := x.m.map B8) rfl (N10.at4 hx)
    rw [List.length_map, hx.m] at this
    exact this
  have s6 : (x.c.toList.drop 56).take 4 = x.g.map B8 := by
    have := seg_part (L := x.segs) (i := 6) (B := x.g.map B8) rfl (N10.at6 hx)
    rw [List.length_map, hx.g] at this
    exact this
  refine ⟨3, ?_⟩
  have := trod_struct_mk (enc := enc) (w := W) (base := base) (spare := spare) (held := held) (n := 2) (cs := x.c.toList)
    (xs := [(.lit (.int .i64 x.op), []), (bytesD x.f, []), (bytesD x.t, []), (bytesD x.a, []), (bytesD x.m, []), (.lit (.bool x.h), []), (bytesD x.g, [])])
    Try.underlying27 (by rw [show Try.prog.cellsOf 27 = 60 from by kernel_rfl, Array.length_toList, N10.size hx]) (by
      simp only [List.mapM_cons, List.mapM_nil, c16, c6, c4, c1, c0, s0, s1, s2, s3, s4, s5, s6, ho, hf, ht, ha, hm, hb, hg, Option.bind_eq_bind, Option.bind_some, Option.pure_def])
  simpa [ndD, Value.cells] using this
end
end Go.Proofs.Ytkjkmnaiddjjnaa
