/- A datagram as an argument: opened and shut again. No program is run here. -/
import Derived.Test.YthpbhimmfmablaaLP
import Derived.Test.YthpbhimmfmablaaTUB
namespace Go.Proofs.Ythpbhimmfmablaa
open Go.ChangeShapes Go.WideShapes Go.ChangeAt Go.RowKit
theorem wf64g (x : Nat) (h : x < 18446744073709551616) : (Lit.int .u64 (x : Int)).wf = true := by
  simp [Lit.wf, IntKind.min, IntKind.max, IntKind.signed, IntKind.bits]; omega
section
variable {H : Type} {enc : TypeId × Value → H} {W : World} {base : Nat} {spare : Nat → Bool} {held : Bool}
/-- a datagram as data -/
def gramD (x : G12) : DataW H := .agg [.lit (.int .i64 x.k), .lit (.int .u64 (x.n : Int)), .lit (.string x.b.data.toList)]
structure G12.Wf (x : G12) : Prop where
  k : (Lit.int .i64 x.k).wf = true
  n : x.n < 18446744073709551616
  b : x.b.size ≤ maxLen
theorem open_gram {b0 : Nat} {v : Value} {d : DataW H} {p : List MemPlace} (hv : Value.okWide Try.prog W .any b0 24 v) (h : DataW.Trod enc Try.prog W base spare held 24 v d p) :
    ∃ x : G12, v = .agg x.c ∧ d = gramD x ∧ p = [] ∧ x.Wf := by
  obtain ⟨cs, rfl, hsz⟩ := okWide_struct Try.underlying24 hv
  rw [show Try.prog.cellsOf 24 = 3 from by kernel_rfl] at hsz
  obtain ⟨l⟩ := cs
  obtain ⟨fuel, hf⟩ := h
  obtain ⟨xs, n, _, hx, hl, hlen, hg⟩ := DataW.trod_struct Try.underlying24 hf
  match xs, hlen with
  | [y0, y1, y2], _ =>
    have c1 : Try.prog.cellsOf 3 = 1 := by kernel_rfl
    have c2 : Try.prog.cellsOf 22 = 1 := by kernel_rfl
    have c3 : Try.prog.cellsOf 9 = 1 := by kernel_rfl
    have g0 := hg 0 _ rfl
    have g1 := hg 1 _ rfl
    have g2 := hg 2 _ rfl
    simp only [Value.cells, c1, c2, c3, List.getElem?_cons_zero, List.getElem?_cons_succ, List.getElem_toArray, List.getElem_cons_zero, List.getElem_cons_succ] at g0 g1 g2
    obtain ⟨nk, h0, rfl, wk⟩ := DataW.trod_int Try.underlying3 g0
    obtain ⟨nn, h1, rfl, wn⟩ := DataW.trod_int Try.underlying22 g1
    obtain ⟨s, h2, rfl, hs⟩ := DataW.trod_string Try.underlying9 g2
    have hend : l.drop 3 = [] := List.drop_of_length_le (by
      have : l.length = 3 := hsz
      omega)
    have hall : l = [Value.int .i64 nk] ++ ([Value.int .u64 nn] ++ ([Value.string s] ++ [])) := by
      have e0 : l = l.drop 0 := rfl
      rw [e0, drop_cut l 0 1, h0, drop_cut l (0 + 1) 1, h1, drop_cut l (0 + 1 + 1) 1, h2, hend]
    have hb := bounds_u64 wn
    obtain ⟨m, rfl⟩ := Int.eq_ofNat_of_zero_le hb.1
    refine ⟨⟨nk, m, s⟩, ?_, ?_, ?_, ⟨wk, by simp only; omega, hs⟩⟩
    · rw [hall]
      rfl
    · simp only [Prod.mk.injEq] at hx
      rw [hx.1]
      rfl
    · simp only [Prod.mk.injEq] at hx
      rw [hx.2]
      simp
theorem shut_gram (x : G12) (hx : x.Wf) : DataW.Trod enc Try.prog W base spare held 24 (.agg x.c) (gramD x) [] := by
  have c1 : Try.prog.cellsOf 3 = 1 := by kernel_rfl
  have c2 : Try.prog.cellsOf 22 = 1 := by kernel_rfl
  have c3 : Try.prog.cellsOf 9 = 1 := by kernel_rfl
  have hk := trod_int_mk (enc := enc) (w := W) (base := base) (spare := spare) (held := held) 1 Try.underlying3 hx.k
  have hn := trod_int_mk (enc := enc) (w := W) (base := base) (spare := spare) (held := held) 1 Try.underlying22 (wf64g x.n hx.n)
  have hb : DataW.trod enc Try.prog W base spare held 2 9 [.string x.b] = some (.lit (.string x.b.data.toList), []) := by
    have := hx.b
    simp [DataW.trod, Try.underlying9, this]
  refine ⟨3, ?_⟩
  have := trod_struct_mk (enc := enc) (w := W) (base := base) (spare := spare) (held := held) (n := 2) (cs := x.c.toList)
    (xs := [(.lit (.int .i64 x.k), []), (.lit (.int .u64 (x.n : Int)), []), (.lit (.string x.b.data.toList), [])])
    Try.underlying24 (by rw [show Try.prog.cellsOf 24 = 3 from by kernel_rfl]; rfl) (by
      simp only [List.mapM_cons, List.mapM_nil, c1, c2, c3, List.drop_zero, List.drop_succ_cons, List.take_succ_cons, List.take_zero, hk, hn, hb, Option.bind_eq_bind, Option.bind_some, Option.pure_def])
  simpa [gramD, Value.cells] using this
end
end Go.Proofs.Ythpbhimmfmablaa
