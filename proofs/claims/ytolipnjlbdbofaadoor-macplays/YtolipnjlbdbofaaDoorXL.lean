/- Slices of integers: what a walk needs to know of them. -/
import Derived.Test.YtolipnjlbdbofaaDoorB
import Derived.Test.YtolipnjlbdbofaaDoorC
import Derived.OwnWalk
namespace Go.Proofs.YtolipnjlbdbofaaDoor
open Go.RowKit
/-- a slice's cells are these integers -/
def IsList (w : World) (a : Option Addr) (l : List Nat) : Prop := l ≠ [] → ∃ g, g < w.heap.size ∧ a = some ⟨g, 0, none⟩ ∧ ∀ i, i < l.length → w.cell? ⟨g, i, none⟩ = some (.int .i64 ((l.getD i 0 : Nat) : Int))
/-- integers as cells -/
def ns (l : List Nat) : List Value := l.map fun (x : Nat) => Value.int .i64 (x : Int)
theorem ns_length (l : List Nat) : (ns l).length = l.length := by simp [ns]
theorem ns_one (l : List Nat) : ∀ u ∈ ns l, u.oneCell' = true := by
  intro u hu
  simp only [ns, List.mem_map] at hu
  obtain ⟨x, _, rfl⟩ := hu
  rfl
theorem int_info : (Tryd.prog.info? 3).map (fun i => (i.zero, i.size, i.bytes)) = some (some (.int .i64 0), 1, 8) := by kernel_rfl
/-- a row of the call's own reads as a list -/
theorem own_list {w : World} {base : Nat} {a : Option Addr} {cap n : Nat} {l : List Nat} (h : w.ownsRow base 3 1 (.slice a n cap) n (ns l)) : l.length = n ∧ IsList w a l := by
  have hl : l.length = n := by have := h.1; rw [ns_length] at this; omega
  refine ⟨hl, fun hne => ?_⟩
  rcases h.2 with ⟨_, h0⟩ | ⟨g, cap', cur, hv, hg, hh, hnc, hcm, hcur, htk⟩
  · exact absurd (List.eq_nil_of_length_eq_zero (by omega)) hne
  · have ha : a = some ⟨g, 0, none⟩ := by injection hv
    subst ha
    refine ⟨g, (Array.getElem?_eq_some_iff.1 hh).1, rfl, fun i hi => ?_⟩
    have hc := h.cellAt (g := g) (cap := cap) i (by omega)
    rw [hc]
    simp [ns, hi]
theorem IsList.below {w w' : World} {a : Option Addr} {l : List Nat} (h : IsList w a l) (hb : Below w.heap.size w w') : IsList w' a l := fun hne => by
  obtain ⟨g, hg, rfl, hc⟩ := h hne
  exact ⟨g, Nat.lt_of_lt_of_le hg hb.size, rfl, fun i hi => (hb.cell (p := ⟨g, i, none⟩) hg).trans (hc i hi)⟩
theorem IsList.drew {w : World} {a : Option Addr} {l : List Nat} (h : IsList w a l) : IsList w.drew a l := h
theorem IsList.drewN {w : World} {a : Option Addr} {l : List Nat} (h : IsList w a l) (n : Nat) : IsList (w.drewN n) a l := h
theorem one_cell (w : World) (v : Value) (t : TypeId) : ∀ (j : Nat) (u : Value), [v][j]? = some u → (w.alloc (.cells #[v] t)).cell? ((⟨w.heap.size, 0, none⟩ : Addr).add j) = some u := by
  intro j u hu
  cases j with
  | zero =>
    simp only [List.getElem?_cons_zero, Option.some.injEq] at hu
    subst hu
    exact (Has.fresh w t #[v]).cell 0
  | succ j => simp at hu
theorem one_int (n : Int) : ∀ u ∈ [Value.int .i64 n], u.oneCell' = true := by
  intro u hu
  simp only [List.mem_singleton] at hu
  subst hu
  rfl
end Go.Proofs.YtolipnjlbdbofaaDoor
