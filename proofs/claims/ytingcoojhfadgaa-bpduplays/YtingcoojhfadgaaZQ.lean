/- A word as an argument: opened and shut again. No program is run here. -/
import Derived.Test.YtingcoojhfadgaaLP
import Derived.Test.YtingcoojhfadgaaZA
namespace Go.Proofs.Ytingcoojhfadgaa
open Go.ChangeShapes Go.WideShapes Go.ChangeAt Go.RowKit
section
variable {H : Type} {enc : TypeId × Value → H} {W : World} {base : Nat} {spare : Nat → Bool} {held : Bool}
/-- a word as data -/
def wordD (x : B11) : DataW H := .agg [bytesD x.r, bytesD x.b, .lit (.int .i64 x.cost), .lit (.int .i64 x.port), .lit (.int .i64 x.age), .lit (.int .i64 x.top), .lit (.int .i64 x.hello), .lit (.int .i64 x.delay), .lit (.bool x.ch), .lit (.bool x.ack)]
theorem open_word {b0 : Nat} {v : Value} {d : DataW H} {p : List MemPlace} (hv : Value.okWide Try.prog W .any b0 24 v) (h : DataW.Trod enc Try.prog W base spare held 24 v d p) :
    ∃ x : B11, v = .agg x.c ∧ d = wordD x ∧ p = [] ∧ x.Fit ∧ x.Wf := by
  obtain ⟨cs, rfl, hsz⟩ := okWide_struct Try.underlying24 hv
  rw [show Try.prog.cellsOf 24 = 24 from by kernel_rfl] at hsz
  obtain ⟨l⟩ := cs
  obtain ⟨fuel, hf⟩ := h
  obtain ⟨xs, n, _, hx, hl, hlen, hg⟩ := DataW.trod_struct Try.underlying24 hf
  match xs, hlen with
  | [y0, y1, y2, y3, y4, y5, y6, y7, y8, y9], _ =>
    have c8 : Try.prog.cellsOf 22 = 8 := by kernel_rfl
    have c1 : Try.prog.cellsOf 3 = 1 := by kernel_rfl
    have c0 : Try.prog.cellsOf 4 = 1 := by kernel_rfl
    have cu : Try.prog.cellsOf 5 = 1 := by kernel_rfl
    have g0 := hg 0 _ rfl
    have g1 := hg 1 _ rfl
    have g2 := hg 2 _ rfl
    have g3 := hg 3 _ rfl
    have g4 := hg 4 _ rfl
    have g5 := hg 5 _ rfl
    have g6 := hg 6 _ rfl
    have g7 := hg 7 _ rfl
    have g8 := hg 8 _ rfl
    have g9 := hg 9 _ rfl
    simp only [Value.cells, c8, c1, c0, List.getElem?_cons_zero, List.getElem?_cons_succ, List.getElem_toArray, List.getElem_cons_zero, List.getElem_cons_succ] at g0 g1 g2 g3 g4 g5 g6 g7 g8 g9
    obtain ⟨lr, hlr, h0, rfl⟩ := cells_bytes Try.underlying22 Try.underlying5 cu c8 g0
    obtain ⟨lb, hlb, h1, rfl⟩ := cells_bytes Try.underlying22 Try.underlying5 cu c8 g1
    obtain ⟨ncost, h2, rfl, wcost⟩ := DataW.trod_int Try.underlying3 g2
    obtain ⟨nport, h3, rfl, wport⟩ := DataW.trod_int Try.underlying3 g3
    obtain ⟨nage, h4, rfl, wage⟩ := DataW.trod_int Try.underlying3 g4
    obtain ⟨ntop, h5, rfl, wtop⟩ := DataW.trod_int Try.underlying3 g5
    obtain ⟨nhello, h6, rfl, whello⟩ := DataW.trod_int Try.underlying3 g6
    obtain ⟨ndelay, h7, rfl, wdelay⟩ := DataW.trod_int Try.underlying3 g7
    obtain ⟨nch, h8, rfl⟩ := cells_bool Try.underlying4 g8
    obtain ⟨nack, h9, rfl⟩ := cells_bool Try.underlying4 g9
    have hend : l.drop 24 = [] := List.drop_of_length_le (by
      have : l.length = 24 := hsz
      omega)
    have hall : l = lr.map B8 ++ (lb.map B8 ++ ([Value.int .i64 ncost] ++ ([Value.int .i64 nport] ++ ([Value.int .i64 nage] ++ ([Value.int .i64 ntop] ++ ([Value.int .i64 nhello] ++ ([Value.int .i64 ndelay] ++ ([Value.bool nch] ++ ([Value.bool nack] ++ []))))))))) := by
      have e0 : l = l.drop 0 := rfl
      rw [e0, drop_cut l 0 8, h0, drop_cut l (0 + 8) 8, h1, drop_cut l (0 + 8 + 8) 1, h2, drop_cut l (0 + 8 + 8 + 1) 1, h3, drop_cut l (0 + 8 + 8 + 1 + 1) 1, h4, drop_cut l (0 + 8 + 8 + 1 + 1 + 1) 1, h5, drop_cut l (0 + 8 + 8 + 1 + 1 + 1 + 1) 1, h6, drop_cut l (0 + 8 + 8 + 1 + 1 + 1 + 1 + 1) 1, h7, drop_cut l (0 + 8 + 8 + 1 + 1 + 1 + 1 + 1 + 1) 1, h8, drop_cut l (0 + 8 + 8 + 1 + 1 + 1 + 1 + 1 + 1 + 1) 1, h9, hend]
    refine ⟨⟨lr, lb, ncost, nport, nage, ntop, nhello, ndelay, nch, nack⟩, ?_, ?_, ?_, ⟨hlr, hlb⟩, ⟨wcost, wport, wage, wtop, whello, wdelay⟩⟩
    · rw [hall]
      unfold B11.c segC B11.segs
      simp
    · simp only [Prod.mk.injEq] at hx
      rw [hx.1]
      rfl
    · simp only [Prod.mk.injEq] at hx
      rw [hx.2]
      simp
theorem shut_word (x : B11) (hx : x.Fit) (hw : x.Wf) : DataW.Trod enc Try.prog W base spare held 24 (.agg x.c) (wordD x) [] := by
  have c8 : Try.prog.cellsOf 22 = 8 := by kernel_rfl
  have c1 : Try.prog.cellsOf 3 = 1 := by kernel_rfl
  have c0 : Try.prog.cellsOf 4 = 1 := by kernel_rfl
  have cu : Try.prog.cellsOf 5 = 1 := by kernel_rfl
  have hr := trod_bytes_mk (enc := enc) (W := W) (base := base) (spare := spare) (held := held) 0 Try.underlying22 Try.underlying5 cu c8 x.r hx.r
  have hb := trod_bytes_mk (enc := enc) (W := W) (base := base) (spare := spare) (held := held) 0 Try.underlying22 Try.underlying5 cu c8 x.b hx.b
  have hcost := trod_int_mk (enc := enc) (w := W) (base := base) (spare := spare) (held := held) 1 Try.underlying3 hw.cost
  have hport := trod_int_mk (enc := enc) (w := W) (base := base) (spare := spare) (held := held) 1 Try.underlying3 hw.port
  have hage := trod_int_mk (enc := enc) (w := W) (base := base) (spare := spare) (held := held) 1 Try.underlying3 hw.age
  have htop := trod_int_mk (enc := enc) (w := W) (base := base) (spare := spare) (held := held) 1 Try.underlying3 hw.top
  have hhello := trod_int_mk (enc := enc) (w := W) (base := base) (spare := spare) (held := held) 1 Try.underlying3 hw.hello
  have hdelay := trod_int_mk (enc := enc) (w := W) (base := base) (spare := spare) (held := held) 1 Try.underlying3 hw.delay
  have hch := trod_bool_mk (enc := enc) (W := W) (base := base) (spare := spare) (held := held) 1 Try.underlying4 x.ch
  have hack := trod_bool_mk (enc := enc) (W := W) (base := base) (spare := spare) (held := held) 1 Try.underlying4 x.ack
  have s0 : (x.c.toList.drop 0).take 8 = x.r.map B8 := by
    have := seg_part (L := x.segs) (i := 0) (off := 0) (B := x.r.map B8) rfl rfl
    rw [List.length_map, hx.r] at this
    exact this
  have s1 : (x.c.toList.drop 8).take 8 = x.b.map B8 := by
    have := seg_part (L := x.segs) (i := 1) (B := x.b.map B8) rfl (B11.at1 hx)
    rw [List.length_map, hx.b] at this
    exact this
  have s2 : (x.c.toList.drop 16).take 1 = [Value.int .i64 x.cost] := seg_part (L := x.segs) (i := 2) rfl (B11.at2 hx)
  have s3 : (x.c.toList.drop 17).take 1 = [Value.int .i64 x.port] := seg_part (L := x.segs) (i := 3) rfl (B11.at3 hx)
  have s4 : (x.c.toList.drop 18).take 1 = [Value.int .i64 x.age] := seg_part (L := x.segs) (i := 4) rfl (B11.at4 hx)
  have s5 : (x.c.toList.drop 19).take 1 = [Value.int .i64 x.top] := seg_part (L := x.segs) (i := 5) rfl (B11.at5 hx)
  have s6 : (x.c.toList.drop 20).take 1 = [Value.int .i64 x.hello] := seg_part (L := x.segs) (i := 6) rfl (B11.at6 hx)
  have s7 : (x.c.toList.drop 21).take 1 = [Value.int .i64 x.delay] := seg_part (L := x.segs) (i := 7) rfl (B11.at7 hx)
  have s8 : (x.c.toList.drop 22).take 1 = [Value.bool x.ch] := seg_part (L := x.segs) (i := 8) rfl (B11.at8 hx)
  have s9 : (x.c.toList.drop 23).take 1 = [Value.bool x.ack] := seg_part (L := x.segs) (i := 9) rfl (B11.at9 hx)
  refine ⟨3, ?_⟩
  have := trod_struct_mk (enc := enc) (w := W) (base := base) (spare := spare) (held := held) (n := 2) (cs := x.c.toList)
    (xs := [(bytesD x.r, []), (bytesD x.b, []), (.lit (.int .i64 x.cost), []), (.lit (.int .i64 x.port), []), (.lit (.int .i64 x.age), []), (.lit (.int .i64 x.top), []), (.lit (.int .i64 x.hello), []), (.lit (.int .i64 x.delay), []), (.lit (.bool x.ch), []), (.lit (.bool x.ack), [])])
    Try.underlying24 (by rw [show Try.prog.cellsOf 24 = 24 from by kernel_rfl, Array.length_toList, B11.size hx]) (by
      simp only [List.mapM_cons, List.mapM_nil, c8, c1, c0, s0, s1, s2, s3, s4, s5, s6, s7, s8, s9, hr, hb, hcost, hport, hage, htop, hhello, hdelay, hch, hack, Option.bind_eq_bind, Option.bind_some, Option.pure_def])
  simpa [wordD, Value.cells] using this
end
end Go.Proofs.Ytingcoojhfadgaa
